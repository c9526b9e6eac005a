import Derived.Test.YtcnagbkdckipnaaGreatDoorAkMem
import Derived.Deep.QuietTactic
import Derived.BigQuiet
import Derived.Deep.RegionHeld
import Derived.Test.YtcnagbkdckipnaaGreatDoorAkTwB
/-
  WALKS over gimletref11.rest, restList and Great: what is left of a bound behind steps and expressions. (Made by gen_akgreat.py.)
-/
namespace Go.Proofs.YtcnagbkdckipnaaGreatDoor
open Go.RowKit Go.Lib
namespace Ak
mutual
/-- what is left of n behind a step, an expression, rows of them -/
def agS : Sp → Int → Int | .mk _ _ nm wh, n => agXs wh (n - 1 - nm.size)
def agX : Xp → Int → Int | .mk _ ar st aa _ tx _, n => agSs st (agXs ar (n - 1 - aa.size - tx.size))
def agXs : List Xp → Int → Int
  | [], n => n
  | a :: l, n => if n < 0 then n else agXs l (agX a n)
def agSs : List Sp → Int → Int
  | [], n => n
  | a :: l, n => if n < 0 then n else agSs l (agS a n)
end
mutual
/-- texts are no greater than a machine bears -/
def azS : Sp → Prop | .mk _ _ nm wh => nm.size ≤ 140737488355328 ∧ azXs wh
def azX : Xp → Prop | .mk _ ar st aa _ tx _ => aa.size ≤ 140737488355328 ∧ tx.size ≤ 140737488355328 ∧ azXs ar ∧ azSs st
def azXs : List Xp → Prop
  | [] => True
  | a :: l => azX a ∧ azXs l
def azSs : List Sp → Prop
  | [] => True
  | a :: l => azS a ∧ azSs l
end
theorem agXs_neg (l : List Xp) {n : Int} (h : n < 0) : agXs l n = n := by
  cases l with
  | nil => simp [agXs]
  | cons a l => unfold agXs; rw [if_pos h]
theorem agSs_neg (l : List Sp) {n : Int} (h : n < 0) : agSs l n = n := by
  cases l with
  | nil => simp [agSs]
  | cons a l => unfold agSs; rw [if_pos h]
/-- how far below nought it may come -/
def Low (n : Int) : Prop := -562949953421312 ≤ n
mutual
theorem agS_low : ∀ (x : Sp) (n : Int), azS x → 0 ≤ n → Low (agS x n) ∧ agS x n < n
  | .mk ax te nm wh, n, hz, hn => by
    unfold azS at hz
    unfold agS
    have := agXs_low wh (n - 1 - nm.size) hz.2 (by unfold Low; omega)
    exact ⟨this.1, by omega⟩
theorem agX_low : ∀ (x : Xp) (n : Int), azX x → 0 ≤ n → Low (agX x n) ∧ agX x n < n
  | .mk op ar st aa cm tx nu, n, hz, hn => by
    unfold azX at hz
    unfold agX
    have h1 := agXs_low ar (n - 1 - aa.size - tx.size) hz.2.2.1 (by unfold Low; omega)
    have h2 := agSs_low st (agXs ar (n - 1 - aa.size - tx.size)) hz.2.2.2 h1.1
    exact ⟨h2.1, by omega⟩
theorem agXs_low : ∀ (l : List Xp) (n : Int), azXs l → Low n → Low (agXs l n) ∧ agXs l n ≤ n
  | [], n, _, h => by unfold agXs; exact ⟨h, Int.le_refl _⟩
  | a :: l, n, hz, h => by
    unfold azXs at hz
    unfold agXs
    split
    · exact ⟨h, Int.le_refl _⟩
    · next hn =>
      have h1 := agX_low a n hz.1 (by omega)
      have h2 := agXs_low l (agX a n) hz.2 h1.1
      exact ⟨h2.1, by omega⟩
theorem agSs_low : ∀ (l : List Sp) (n : Int), azSs l → Low n → Low (agSs l n) ∧ agSs l n ≤ n
  | [], n, _, h => by unfold agSs; exact ⟨h, Int.le_refl _⟩
  | a :: l, n, hz, h => by
    unfold azSs at hz
    unfold agSs
    split
    · exact ⟨h, Int.le_refl _⟩
    · next hn =>
      have h1 := agS_low a n hz.1 (by omega)
      have h2 := agSs_low l (agS a n) hz.2 h1.1
      exact ⟨h2.1, by omega⟩
end
theorem azXs_get : ∀ {l : List Xp} {i : Nat} {x : Xp}, azXs l → l[i]? = some x → azX x
  | [], _, _, _, h => by simp at h
  | a :: l, 0, x, h, e => by simp at e; subst e; unfold azXs at h; exact h.1
  | a :: l, i + 1, x, h, e => by unfold azXs at h; exact azXs_get h.2 (by simpa using e)
theorem azSs_get : ∀ {l : List Sp} {i : Nat} {x : Sp}, azSs l → l[i]? = some x → azS x
  | [], _, _, _, h => by simp at h
  | a :: l, 0, x, h, e => by simp at e; subst e; unfold azSs at h; exact h.1
  | a :: l, i + 1, x, h, e => by unfold azSs at h; exact azSs_get h.2 (by simpa using e)
/-- the rest of a row -/
theorem agXs_step (l : List Xv) (i : Nat) (x : Xv) (h : l[i]? = some x) {n : Int} (hn : 0 ≤ n) : agXs (cXs (l.drop i)) n = agXs (cXs (l.drop (i + 1))) (agX (cX x) n) := by
  obtain ⟨hi, rfl⟩ := List.getElem?_eq_some_iff.1 h
  rw [List.drop_eq_getElem_cons hi, cXs, agXs, if_neg (by omega)]
theorem agSs_step (l : List Sv) (i : Nat) (x : Sv) (h : l[i]? = some x) {n : Int} (hn : 0 ≤ n) : agSs (cSs (l.drop i)) n = agSs (cSs (l.drop (i + 1))) (agS (cS x) n) := by
  obtain ⟨hi, rfl⟩ := List.getElem?_eq_some_iff.1 h
  rw [List.drop_eq_getElem_cons hi, cSs, agSs, if_neg (by omega)]
theorem cXs_get (l : List Xv) (i : Nat) (x : Xv) (h : l[i]? = some x) : (cXs l)[i]? = some (cX x) := by rw [cXs_map, List.getElem?_map, h]; rfl
theorem cSs_get (l : List Sv) (i : Nat) (x : Sv) (h : l[i]? = some x) : (cSs l)[i]? = some (cS x) := by rw [cSs_map, List.getElem?_map, h]; rfl
/-- what is asked of restList, of rest -/
def CL (l : List Xv) : Prop := ∀ (W : World) p c (z : Int), RowX W p c l → azXs (cXs l) → Low z → z ≤ 1152921504606846976 → Calls Tryz.prog 62 #[.slice p l.length c, .int .i64 z] W fun r w' => r = .returned (.int .i64 (agXs (cXs l) z)) ∧ Below W.heap.size W w'
def CR (l : List Sv) : Prop := ∀ (W : World) p c (z : Int), RowS W p c l → azSs (cSs l) → Low z → z ≤ 1152921504606846976 → Calls Tryz.prog 27 #[.slice p l.length c, .int .i64 z] W fun r w' => r = .returned (.int .i64 (agSs (cSs l) z)) ∧ Below W.heap.size W w'
def wh : Sv → List Xv | .mk _ _ _ _ _ l => l
def ars : Xv → List Xv | .mk _ _ _ l _ _ _ _ _ _ _ => l
def sts : Xv → List Sv | .mk _ _ _ _ _ _ l _ _ _ _ => l
end Ak
set_option maxRecDepth 100000 in
set_option maxHeartbeats 4000000 in
theorem akRest (l : List Ak.Sv) (ih : ∀ a ∈ l, Ak.CL (Ak.wh a)) : Ak.CR l := by
  intro W p cap z hR hz hlow hup
  obtain ⟨h1, h2, h3⟩ := hR
  obtain ⟨n, hn⟩ : ∃ n, l.length = n := ⟨_, rfl⟩
  rw [hn] at h1 h3 ⊢
  have HN := hide' hn
  have H3 := hide' h3
  have IH := hide' ih
  have HZ := hide' hz
  obtain ⟨ans, hans⟩ : ∃ ans, Ak.agSs (Ak.cSs l) z = ans := ⟨_, rfl⟩
  rw [hans]
  have HST : Hid (Ak.agSs (Ak.cSs (l.drop 0)) z = ans) := by rw [List.drop_zero]; exact hans
  have HLO := hide' hlow
  clear h3 ih hz hn hans hlow
  go_enter Tryz.func27, Tryz.ntmps27
  go_wp2_with fail
  go_loopw [1, 5] (fun a v wr => ∃ (i : Nat) (x : Int), v = .int .i64 i ∧ a = .int .i64 x ∧ i ≤ n ∧ Hid (Ak.agSs (Ak.cSs (l.drop i)) x = ans) ∧ Hid (Ak.Low x ∧ x ≤ 1152921504606846976) ∧ Hid (Below W.heap.size W wr)) (fun _ v _ => n - (RowKit.intOf v).toNat)
  case atStart => exact ⟨0, z, rfl, rfl, Nat.zero_le _, HST, hide' ⟨HLO.out, hup⟩, Below.refl _ _⟩
  case round =>
    obtain ⟨i, x, rfl, rfl, hi, HA, HX, HB⟩ := hrel
    by_cases hlt : i < n
    · have t1 : (i : Int) < (n : Int) := by omega
      have t0 : (0 : Int) ≤ i := by omega
      by_cases hx : 0 ≤ x
      · obtain ⟨b, o, rfl, hel⟩ := H3.out (by omega)
        obtain ⟨xs, hxs⟩ : ∃ xs, l[i]? = some xs := ⟨_, List.getElem?_eq_getElem (by rw [HN.out]; exact hlt)⟩
        obtain ⟨hrg, hok⟩ := hel i xs hxs
        have hzi := Ak.azSs_get HZ.out (Ak.cSs_get l i xs hxs)
        have hcl := IH.out xs (List.mem_of_getElem? hxs)
        have hst := Ak.agSs_step l i xs hxs hx
        have hlw := Ak.agS_low (Ak.cS xs) x hzi hx
        rw [HA.out] at hst
        obtain ⟨ax, te, nm, pw, cw, lw⟩ := xs
        have c2 := hrg 2 (.string nm) rfl
        have c3 := hrg 3 (.slice pw lw.length cw) rfl
        have hrow := hok.row
        unfold Ak.cS at hzi hst hlw
        unfold Ak.azS at hzi
        unfold Ak.agS at hst hlw
        obtain ⟨y, hy⟩ : ∃ y, Ak.agXs (Ak.cXs lw) (x - 1 - nm.size) = y := ⟨_, rfl⟩
        rw [hy] at hst hlw
        have e1 : IntKind.i64.wrap (IntKind.i64.wrap (x - 1) - (nm.size : Nat)) = x - 1 - nm.size := by
          have := HX.out
          rw [show IntKind.i64.wrap (x - 1) = x - 1 by rw [IntKind.wrap_i64]; omega, IntKind.wrap_i64]
          omega
        have tw : IntKind.i64.wrap ((i : Int) + 1) = (i : Int) + 1 := by rw [IntKind.wrap_i64]; omega
        obtain ⟨nw, hnw⟩ : ∃ nw, lw.length = nw := ⟨_, rfl⟩
        have hbd : Below W.heap.size W wr.drew := HB.out.drew
        have hC := hcl wr.drew pw cw (x - 1 - nm.size) (hrow.below (HB.out.drew)) hzi.2 (by unfold Ak.Low; have := HX.out; omega) (by have := HX.out; omega)
        dsimp only [Ak.wh] at hC
        rw [hy, ← e1, hnw] at hC
        rw [hnw] at c3
        obtain ⟨S, hSd⟩ : ∃ S : World → Prop, S = fun W' => W'.cell? ⟨b, o + i * 4 + 2, none⟩ = some (.string nm) ∧ W'.cell? ⟨b, o + i * 4 + 3, none⟩ = some (.slice pw nw cw) := ⟨_, rfl⟩
        have HSO : Hid (∀ W', S W' → W'.cell? ⟨b, o + i * 4 + 2, none⟩ = some (.string nm) ∧ W'.cell? ⟨b, o + i * 4 + 3, none⟩ = some (.slice pw nw cw)) := fun W' h => by rw [hSd] at h; exact h
        have hS0 : S wr.drew := by rw [hSd]; exact ⟨(HB.out.cell (p := ⟨b, o + i * 4 + 2, none⟩) (block_lt_of_cell c2)).trans c2, (HB.out.cell (p := ⟨b, o + i * 4 + 3, none⟩) (block_lt_of_cell c3)).trans c3⟩
        have HSB : Hid (∀ W', Below wr.drew.heap.size wr.drew W' → S W') := fun W' hb => by
          have hb' := hbd.trans (hb.mono hbd.size)
          rw [hSd]
          exact ⟨(hb'.cell (p := ⟨b, o + i * 4 + 2, none⟩) (block_lt_of_cell c2)).trans c2, (hb'.cell (p := ⟨b, o + i * 4 + 3, none⟩) (block_lt_of_cell c3)).trans c3⟩
        have HC := hide' hC
        have HBD := hide' hbd
        have HNX := hide' hst.symm
        have HLX : Hid (Ak.Low y ∧ y ≤ 1152921504606846976) := ⟨hlw.1, by have := HX.out.2; omega⟩
        clear hel hrg hok hzi hcl hst hlw c2 c3 hrow hy e1 hnw hC hSd hbd H3 IH HA HX hxs HZ
        go_wp2
        refine wp_region_held_drew (S := S) (by kernel_rfl) hS0 (fun hHeld => ?_)
        simp only [List.size_toArray, List.length_cons, List.length_nil, Nat.reduceAdd]
        refine wpAnyH_take (i := 0) (v := .slice (some ⟨b, o, none⟩) n cap) rfl (by kernel_rfl) (by kernel_rfl) (by kernel_rfl) (fun _ _ _ h => h) (Or.inl ⟨by rfl, ?y0⟩) (by assumption) ?_
        case y0 => (intro w' hSw; obtain ⟨q2, q3⟩ := HSO.out w' hSw; go_simp)
        try simp only [List.getElem_toArray, List.getElem_cons_zero, Act.put, List.setIfInBounds_toArray, List.set_cons_zero, List.set_cons_succ]
        refine wpAnyH_take (i := 1) (v := .int .i64 (i : Nat)) rfl (by kernel_rfl) (by kernel_rfl) (by kernel_rfl) (fun _ _ _ h => h) (Or.inl ⟨by rfl, ?y1⟩) (by assumption) ?_
        case y1 => (intro w' hSw; obtain ⟨q2, q3⟩ := HSO.out w' hSw; go_simp)
        try simp only [List.getElem_toArray, List.getElem_cons_zero, List.getElem_cons_succ, Act.put, List.setIfInBounds_toArray, List.set_cons_zero, List.set_cons_succ]
        refine wpAnyH_take (i := 2) (v := .pointer (some ⟨b, o + i * 4, none⟩)) rfl (by kernel_rfl) (by kernel_rfl) (by kernel_rfl) (fun _ _ _ h => h) (Or.inl ⟨by rfl, ?y2⟩) (by assumption) ?_
        case y2 => (intro w' hSw; obtain ⟨q2, q3⟩ := HSO.out w' hSw; go_simp)
        try simp only [List.getElem_toArray, List.getElem_cons_zero, List.getElem_cons_succ, Act.put, List.setIfInBounds_toArray, List.set_cons_zero, List.set_cons_succ]
        refine wpAnyH_take (i := 3) (v := .pointer (some ⟨b, o + i * 4 + 3, none⟩)) rfl (by kernel_rfl) (by kernel_rfl) (by kernel_rfl) (fun _ _ _ h => h) (Or.inl ⟨by rfl, ?y3⟩) (by assumption) ?_
        case y3 => (intro w' hSw; obtain ⟨q2, q3⟩ := HSO.out w' hSw; go_simp)
        try simp only [List.getElem_toArray, List.getElem_cons_zero, List.getElem_cons_succ, Act.put, List.setIfInBounds_toArray, List.set_cons_zero, List.set_cons_succ]
        refine wpAnyH_take (i := 4) (v := .slice pw nw cw) rfl (by kernel_rfl) (by kernel_rfl) (by kernel_rfl) (fun _ _ _ h => h) (Or.inl ⟨by rfl, ?y4⟩) (by assumption) ?_
        case y4 => (intro w' hSw; obtain ⟨q2, q3⟩ := HSO.out w' hSw; go_simp)
        try simp only [List.getElem_toArray, List.getElem_cons_zero, List.getElem_cons_succ, Act.put, List.setIfInBounds_toArray, List.set_cons_zero, List.set_cons_succ]
        refine wpAnyH_take (i := 5) (v := .int .i64 x) rfl (by kernel_rfl) (by kernel_rfl) (by kernel_rfl) (fun _ _ _ h => h) (Or.inl ⟨by rfl, ?y5⟩) (by assumption) ?_
        case y5 => (intro w' hSw; obtain ⟨q2, q3⟩ := HSO.out w' hSw; go_simp)
        try simp only [List.getElem_toArray, List.getElem_cons_zero, List.getElem_cons_succ, Act.put, List.setIfInBounds_toArray, List.set_cons_zero, List.set_cons_succ]
        refine wpAnyH_take (i := 6) (v := .int .i64 (IntKind.i64.wrap (x - 1))) rfl (by kernel_rfl) (by kernel_rfl) (by kernel_rfl) (fun _ _ _ h => h) (Or.inl ⟨by rfl, ?y6⟩) (by assumption) ?_
        case y6 => (intro w' hSw; obtain ⟨q2, q3⟩ := HSO.out w' hSw; go_simp)
        try simp only [List.getElem_toArray, List.getElem_cons_zero, List.getElem_cons_succ, Act.put, List.setIfInBounds_toArray, List.set_cons_zero, List.set_cons_succ]
        refine wpAnyH_take (i := 7) (v := .slice (some ⟨b, o, none⟩) n cap) rfl (by kernel_rfl) (by kernel_rfl) (by kernel_rfl) (fun _ _ _ h => h) (Or.inl ⟨by rfl, ?y7⟩) (by assumption) ?_
        case y7 => (intro w' hSw; obtain ⟨q2, q3⟩ := HSO.out w' hSw; go_simp)
        try simp only [List.getElem_toArray, List.getElem_cons_zero, List.getElem_cons_succ, Act.put, List.setIfInBounds_toArray, List.set_cons_zero, List.set_cons_succ]
        refine wpAnyH_take (i := 8) (v := .int .i64 (i : Nat)) rfl (by kernel_rfl) (by kernel_rfl) (by kernel_rfl) (fun _ _ _ h => h) (Or.inl ⟨by rfl, ?y8⟩) (by assumption) ?_
        case y8 => (intro w' hSw; obtain ⟨q2, q3⟩ := HSO.out w' hSw; go_simp)
        try simp only [List.getElem_toArray, List.getElem_cons_zero, List.getElem_cons_succ, Act.put, List.setIfInBounds_toArray, List.set_cons_zero, List.set_cons_succ]
        refine wpAnyH_take (i := 9) (v := .pointer (some ⟨b, o + i * 4, none⟩)) rfl (by kernel_rfl) (by kernel_rfl) (by kernel_rfl) (fun _ _ _ h => h) (Or.inl ⟨by rfl, ?y9⟩) (by assumption) ?_
        case y9 => (intro w' hSw; obtain ⟨q2, q3⟩ := HSO.out w' hSw; go_simp)
        try simp only [List.getElem_toArray, List.getElem_cons_zero, List.getElem_cons_succ, Act.put, List.setIfInBounds_toArray, List.set_cons_zero, List.set_cons_succ]
        refine wpAnyH_take (i := 10) (v := .pointer (some ⟨b, o + i * 4 + 2, none⟩)) rfl (by kernel_rfl) (by kernel_rfl) (by kernel_rfl) (fun _ _ _ h => h) (Or.inl ⟨by rfl, ?y10⟩) (by assumption) ?_
        case y10 => (intro w' hSw; obtain ⟨q2, q3⟩ := HSO.out w' hSw; go_simp)
        try simp only [List.getElem_toArray, List.getElem_cons_zero, List.getElem_cons_succ, Act.put, List.setIfInBounds_toArray, List.set_cons_zero, List.set_cons_succ]
        refine wpAnyH_take (i := 11) (v := .string nm) rfl (by kernel_rfl) (by kernel_rfl) (by kernel_rfl) (fun _ _ _ h => h) (Or.inl ⟨by rfl, ?y11⟩) (by assumption) ?_
        case y11 => (intro w' hSw; obtain ⟨q2, q3⟩ := HSO.out w' hSw; go_simp)
        try simp only [List.getElem_toArray, List.getElem_cons_zero, List.getElem_cons_succ, Act.put, List.setIfInBounds_toArray, List.set_cons_zero, List.set_cons_succ]
        refine wpAnyH_take (i := 12) (v := .int .i64 (nm.size : Nat)) rfl (by kernel_rfl) (by kernel_rfl) (by kernel_rfl) (fun _ _ _ h => h) (Or.inl ⟨by rfl, ?y12⟩) (by assumption) ?_
        case y12 => (intro w' hSw; obtain ⟨q2, q3⟩ := HSO.out w' hSw; go_simp)
        try simp only [List.getElem_toArray, List.getElem_cons_zero, List.getElem_cons_succ, Act.put, List.setIfInBounds_toArray, List.set_cons_zero, List.set_cons_succ]
        refine wpAnyH_take (i := 13) (v := .int .i64 (IntKind.i64.wrap (IntKind.i64.wrap (x - 1) - (nm.size : Nat)))) rfl (by kernel_rfl) (by kernel_rfl) (by kernel_rfl) (fun _ _ _ h => h) (Or.inl ⟨by rfl, ?y13⟩) (by assumption) ?_
        case y13 => (intro w' hSw; obtain ⟨q2, q3⟩ := HSO.out w' hSw; go_simp)
        try simp only [List.getElem_toArray, List.getElem_cons_zero, List.getElem_cons_succ, Act.put, List.setIfInBounds_toArray, List.set_cons_zero, List.set_cons_succ]
        refine wpAnyH_ready (rs := [14]) (by kernel_rfl) (by simp) ?_
        refine AllReadyH.cons rfl (fun K hK => ?_) AllReadyH.nil
        try simp only [List.getElem_toArray, List.getElem_cons_zero, List.getElem_cons_succ]
        go_simp
        refine (HC.out).mono ?_
        rintro e Wz ⟨rfl, hbz⟩
        have hSz : S Wz := HSB.out Wz hbz
        have HBZ := hide' hbz
        clear hbz
        refine hK.out _ _ hSz (fun hHeld9 => ?_)
        clear hK K
        try simp only [List.getElem_toArray, List.getElem_cons_zero, List.getElem_cons_succ, Act.put, List.setIfInBounds_toArray, List.set_cons_zero, List.set_cons_succ]
        refine wpAnyH_take (i := 15) (v := .int .i64 y) rfl (by kernel_rfl) (by kernel_rfl) (by kernel_rfl) (fun _ _ _ h => h) (Or.inl ⟨by rfl, ?y15⟩) (by assumption) ?_
        case y15 => (intro w' hSw; obtain ⟨q2, q3⟩ := HSO.out w' hSw; go_simp)
        try simp only [List.getElem_toArray, List.getElem_cons_zero, List.getElem_cons_succ, Act.put, List.setIfInBounds_toArray, List.set_cons_zero, List.set_cons_succ]
        refine wpAnyH_done (by kernel_rfl) ?_ _
        go_wp2
        exact ⟨⟨i + 1, y, rfl, rfl, by omega, HNX, HLX, HBD.out.trans (HBZ.out.mono HBD.out.size)⟩, by simp [RowKit.intOf]; omega⟩
      · have ha : x = ans := by rw [← HA.out, Ak.agSs_neg _ (by omega)]
        have HA2 := hide' ha
        clear ha
        go_wp2
        go_ret
        exact ⟨by rw [HA2.out]; rfl, HB.out⟩
    · have t1 : ¬ (i : Int) < (n : Int) := by omega
      have ha : x = ans := by rw [← HA.out, List.drop_eq_nil_of_le (by have := HN.out; omega)]; rfl
      have HA2 := hide' ha
      clear ha
      go_wp2
      go_ret
      exact ⟨by rw [HA2.out]; rfl, HB.out⟩
set_option maxRecDepth 100000 in
set_option maxHeartbeats 4000000 in
theorem akRestList (l : List Ak.Xv) (ihE : ∀ a ∈ l, Ak.CL (Ak.ars a)) (ihS : ∀ a ∈ l, Ak.CR (Ak.sts a)) : Ak.CL l := by
  intro W p cap z hR hz hlow hup
  obtain ⟨h1, h2, h3⟩ := hR
  obtain ⟨n, hn⟩ : ∃ n, l.length = n := ⟨_, rfl⟩
  rw [hn] at h1 h3 ⊢
  have HN := hide' hn
  have H3 := hide' h3
  have IHE := hide' ihE
  have IHS := hide' ihS
  have HZ := hide' hz
  obtain ⟨ans, hans⟩ : ∃ ans, Ak.agXs (Ak.cXs l) z = ans := ⟨_, rfl⟩
  rw [hans]
  have HST : Hid (Ak.agXs (Ak.cXs (l.drop 0)) z = ans) := by rw [List.drop_zero]; exact hans
  have HLO := hide' hlow
  clear h3 ihE ihS hz hn hans hlow
  go_enter Tryz.func62, Tryz.ntmps62
  go_wp2_with fail
  go_loopw [1, 5] (fun a v wr => ∃ (i : Nat) (x : Int), v = .int .i64 i ∧ a = .int .i64 x ∧ i ≤ n ∧ Hid (Ak.agXs (Ak.cXs (l.drop i)) x = ans) ∧ Hid (Ak.Low x ∧ x ≤ 1152921504606846976) ∧ Hid (Below W.heap.size W wr)) (fun _ v _ => n - (RowKit.intOf v).toNat)
  case atStart => exact ⟨0, z, rfl, rfl, Nat.zero_le _, HST, hide' ⟨HLO.out, hup⟩, Below.refl _ _⟩
  case round =>
    obtain ⟨i, x, rfl, rfl, hi, HA, HX, HB⟩ := hrel
    by_cases hlt : i < n
    · have t1 : (i : Int) < (n : Int) := by omega
      have t0 : (0 : Int) ≤ i := by omega
      by_cases hx : 0 ≤ x
      · obtain ⟨b, o, rfl, hel⟩ := H3.out (by omega)
        obtain ⟨xs, hxs⟩ : ∃ xs, l[i]? = some xs := ⟨_, List.getElem?_eq_getElem (by rw [HN.out]; exact hlt)⟩
        obtain ⟨hrg, hok⟩ := hel i xs hxs
        have hzi := Ak.azXs_get HZ.out (Ak.cXs_get l i xs hxs)
        have hcl := IHE.out xs (List.mem_of_getElem? hxs)
        have hcr := IHS.out xs (List.mem_of_getElem? hxs)
        have hst := Ak.agXs_step l i xs hxs hx
        have hlw := Ak.agX_low (Ak.cX xs) x hzi hx
        rw [HA.out] at hst
        obtain ⟨op, pa, ca, la, ps, cs, ls, at_, cm, tx, nu⟩ := xs
        have c1 := hrg 1 (.slice pa la.length ca) rfl
        have c2 := hrg 2 (.slice ps ls.length cs) rfl
        have c3 := hrg 3 (.string at_) rfl
        have c5 := hrg 5 (.string tx) rfl
        obtain ⟨hrowA, hrowS⟩ := hok.rows
        unfold Ak.cX at hzi hst hlw
        unfold Ak.azX at hzi
        unfold Ak.agX at hst hlw
        have hl1 := Ak.agXs_low (Ak.cXs la) (x - 1 - at_.size - tx.size) hzi.2.2.1 (by unfold Ak.Low; omega)
        obtain ⟨y, hy⟩ : ∃ y, Ak.agXs (Ak.cXs la) (x - 1 - at_.size - tx.size) = y := ⟨_, rfl⟩
        rw [hy] at hst hlw hl1
        obtain ⟨y2, hy2⟩ : ∃ y2, Ak.agSs (Ak.cSs ls) y = y2 := ⟨_, rfl⟩
        rw [hy2] at hst hlw
        have e1 : IntKind.i64.wrap (IntKind.i64.wrap (IntKind.i64.wrap (x - 1) - (at_.size : Nat)) - (tx.size : Nat)) = x - 1 - at_.size - tx.size := by
          have := HX.out
          rw [show IntKind.i64.wrap (x - 1) = x - 1 by rw [IntKind.wrap_i64]; omega, show IntKind.i64.wrap (x - 1 - (at_.size : Nat)) = x - 1 - (at_.size : Nat) by rw [IntKind.wrap_i64]; omega, IntKind.wrap_i64]
          omega
        have tw : IntKind.i64.wrap ((i : Int) + 1) = (i : Int) + 1 := by rw [IntKind.wrap_i64]; omega
        obtain ⟨na, hna⟩ : ∃ na, la.length = na := ⟨_, rfl⟩
        obtain ⟨ns, hns⟩ : ∃ ns, ls.length = ns := ⟨_, rfl⟩
        have hbd : Below W.heap.size W wr.drew := HB.out.drew
        have hC := hcl wr.drew pa ca (x - 1 - at_.size - tx.size) (hrowA.below (HB.out.drew)) hzi.2.2.1 (by unfold Ak.Low; omega) (by have := HX.out; omega)
        dsimp only [Ak.ars] at hC
        rw [hy, ← e1, hna] at hC
        have hCS : ∀ W', Below wr.drew.heap.size wr.drew W' → Calls Tryz.prog 27 #[.slice ps ns cs, .int .i64 y] W' fun r w' => r = .returned (.int .i64 y2) ∧ Below W'.heap.size W' w' := fun W' hb => by
          have := hcr W' ps cs y ((hrowS.below HB.out.drew).below hb) hzi.2.2.2 hl1.1 (by have := HX.out.2; omega)
          dsimp only [Ak.sts] at this
          rw [hy2, hns] at this
          exact this
        rw [hna] at c1
        rw [hns] at c2
        obtain ⟨S, hSd⟩ : ∃ S : World → Prop, S = fun W' => W'.cell? ⟨b, o + i * 7 + 1, none⟩ = some (.slice pa na ca) ∧ W'.cell? ⟨b, o + i * 7 + 2, none⟩ = some (.slice ps ns cs) ∧ W'.cell? ⟨b, o + i * 7 + 3, none⟩ = some (.string at_) ∧ W'.cell? ⟨b, o + i * 7 + 5, none⟩ = some (.string tx) := ⟨_, rfl⟩
        have HSO : Hid (∀ W', S W' → W'.cell? ⟨b, o + i * 7 + 1, none⟩ = some (.slice pa na ca) ∧ W'.cell? ⟨b, o + i * 7 + 2, none⟩ = some (.slice ps ns cs) ∧ W'.cell? ⟨b, o + i * 7 + 3, none⟩ = some (.string at_) ∧ W'.cell? ⟨b, o + i * 7 + 5, none⟩ = some (.string tx)) := fun W' h => by rw [hSd] at h; exact h
        have hS0 : S wr.drew := by rw [hSd]; exact ⟨(hbd.cell (p := ⟨b, o + i * 7 + 1, none⟩) (block_lt_of_cell c1)).trans c1, (hbd.cell (p := ⟨b, o + i * 7 + 2, none⟩) (block_lt_of_cell c2)).trans c2, (hbd.cell (p := ⟨b, o + i * 7 + 3, none⟩) (block_lt_of_cell c3)).trans c3, (hbd.cell (p := ⟨b, o + i * 7 + 5, none⟩) (block_lt_of_cell c5)).trans c5⟩
        have HSB : Hid (∀ W', Below wr.drew.heap.size wr.drew W' → S W') := fun W' hb => by
          have hb' := hbd.trans (hb.mono hbd.size)
          rw [hSd]
          exact ⟨(hb'.cell (p := ⟨b, o + i * 7 + 1, none⟩) (block_lt_of_cell c1)).trans c1, (hb'.cell (p := ⟨b, o + i * 7 + 2, none⟩) (block_lt_of_cell c2)).trans c2, (hb'.cell (p := ⟨b, o + i * 7 + 3, none⟩) (block_lt_of_cell c3)).trans c3, (hb'.cell (p := ⟨b, o + i * 7 + 5, none⟩) (block_lt_of_cell c5)).trans c5⟩
        have HCE := hide' hC
        have HCS := hide' hCS
        have HBD := hide' hbd
        have HNX := hide' hst.symm
        have HLX : Hid (Ak.Low y2 ∧ y2 ≤ 1152921504606846976) := ⟨hlw.1, by have := HX.out.2; omega⟩
        clear hel hrg hok hzi hcl hcr hst hlw hl1 c1 c2 c3 c5 hrowA hrowS hy hy2 e1 hna hns hC hCS hSd hbd H3 IHE IHS HA HX hxs HZ
        go_wp2
        refine wp_region_held_drew (S := S) (by kernel_rfl) hS0 (fun hHeld => ?_)
        simp only [List.size_toArray, List.length_cons, List.length_nil, Nat.reduceAdd]
        refine wpAnyH_take (i := 0) (v := .slice (some ⟨b, o, none⟩) n cap) rfl (by kernel_rfl) (by kernel_rfl) (by kernel_rfl) (fun _ _ _ h => h) (Or.inl ⟨by rfl, ?y0⟩) (by assumption) ?_
        case y0 => (intro w' hSw; obtain ⟨q1, q2, q3, q5⟩ := HSO.out w' hSw; go_simp)
        try simp only [List.getElem_toArray, List.getElem_cons_zero, Act.put, List.setIfInBounds_toArray, List.set_cons_zero, List.set_cons_succ]
        refine wpAnyH_take (i := 1) (v := .int .i64 (i : Nat)) rfl (by kernel_rfl) (by kernel_rfl) (by kernel_rfl) (fun _ _ _ h => h) (Or.inl ⟨by rfl, ?y1⟩) (by assumption) ?_
        case y1 => (intro w' hSw; obtain ⟨q1, q2, q3, q5⟩ := HSO.out w' hSw; go_simp)
        try simp only [List.getElem_toArray, List.getElem_cons_zero, List.getElem_cons_succ, Act.put, List.setIfInBounds_toArray, List.set_cons_zero, List.set_cons_succ]
        refine wpAnyH_take (i := 2) (v := .pointer (some ⟨b, o + i * 7, none⟩)) rfl (by kernel_rfl) (by kernel_rfl) (by kernel_rfl) (fun _ _ _ h => h) (Or.inl ⟨by rfl, ?y2⟩) (by assumption) ?_
        case y2 => (intro w' hSw; obtain ⟨q1, q2, q3, q5⟩ := HSO.out w' hSw; go_simp)
        try simp only [List.getElem_toArray, List.getElem_cons_zero, List.getElem_cons_succ, Act.put, List.setIfInBounds_toArray, List.set_cons_zero, List.set_cons_succ]
        refine wpAnyH_take (i := 3) (v := .pointer (some ⟨b, o + i * 7 + 2, none⟩)) rfl (by kernel_rfl) (by kernel_rfl) (by kernel_rfl) (fun _ _ _ h => h) (Or.inl ⟨by rfl, ?y3⟩) (by assumption) ?_
        case y3 => (intro w' hSw; obtain ⟨q1, q2, q3, q5⟩ := HSO.out w' hSw; go_simp)
        try simp only [List.getElem_toArray, List.getElem_cons_zero, List.getElem_cons_succ, Act.put, List.setIfInBounds_toArray, List.set_cons_zero, List.set_cons_succ]
        refine wpAnyH_take (i := 4) (v := .pointer (some ⟨b, o + i * 7 + 2, none⟩)) rfl (by kernel_rfl) (by kernel_rfl) (by kernel_rfl) (fun _ _ _ h => h) (Or.inl ⟨by rfl, ?y4⟩) (by assumption) ?_
        case y4 => (intro w' hSw; obtain ⟨q1, q2, q3, q5⟩ := HSO.out w' hSw; go_simp)
        try simp only [List.getElem_toArray, List.getElem_cons_zero, List.getElem_cons_succ, Act.put, List.setIfInBounds_toArray, List.set_cons_zero, List.set_cons_succ]
        refine wpAnyH_take (i := 5) (v := .slice ps ns cs) rfl (by kernel_rfl) (by kernel_rfl) (by kernel_rfl) (fun _ _ _ h => h) (Or.inl ⟨by rfl, ?y5⟩) (by assumption) ?_
        case y5 => (intro w' hSw; obtain ⟨q1, q2, q3, q5⟩ := HSO.out w' hSw; go_simp)
        try simp only [List.getElem_toArray, List.getElem_cons_zero, List.getElem_cons_succ, Act.put, List.setIfInBounds_toArray, List.set_cons_zero, List.set_cons_succ]
        refine wpAnyH_take (i := 6) (v := .slice (some ⟨b, o, none⟩) n cap) rfl (by kernel_rfl) (by kernel_rfl) (by kernel_rfl) (fun _ _ _ h => h) (Or.inl ⟨by rfl, ?y6⟩) (by assumption) ?_
        case y6 => (intro w' hSw; obtain ⟨q1, q2, q3, q5⟩ := HSO.out w' hSw; go_simp)
        try simp only [List.getElem_toArray, List.getElem_cons_zero, List.getElem_cons_succ, Act.put, List.setIfInBounds_toArray, List.set_cons_zero, List.set_cons_succ]
        refine wpAnyH_take (i := 7) (v := .int .i64 (i : Nat)) rfl (by kernel_rfl) (by kernel_rfl) (by kernel_rfl) (fun _ _ _ h => h) (Or.inl ⟨by rfl, ?y7⟩) (by assumption) ?_
        case y7 => (intro w' hSw; obtain ⟨q1, q2, q3, q5⟩ := HSO.out w' hSw; go_simp)
        try simp only [List.getElem_toArray, List.getElem_cons_zero, List.getElem_cons_succ, Act.put, List.setIfInBounds_toArray, List.set_cons_zero, List.set_cons_succ]
        refine wpAnyH_take (i := 8) (v := .pointer (some ⟨b, o + i * 7, none⟩)) rfl (by kernel_rfl) (by kernel_rfl) (by kernel_rfl) (fun _ _ _ h => h) (Or.inl ⟨by rfl, ?y8⟩) (by assumption) ?_
        case y8 => (intro w' hSw; obtain ⟨q1, q2, q3, q5⟩ := HSO.out w' hSw; go_simp)
        try simp only [List.getElem_toArray, List.getElem_cons_zero, List.getElem_cons_succ, Act.put, List.setIfInBounds_toArray, List.set_cons_zero, List.set_cons_succ]
        refine wpAnyH_take (i := 9) (v := .pointer (some ⟨b, o + i * 7 + 1, none⟩)) rfl (by kernel_rfl) (by kernel_rfl) (by kernel_rfl) (fun _ _ _ h => h) (Or.inl ⟨by rfl, ?y9⟩) (by assumption) ?_
        case y9 => (intro w' hSw; obtain ⟨q1, q2, q3, q5⟩ := HSO.out w' hSw; go_simp)
        try simp only [List.getElem_toArray, List.getElem_cons_zero, List.getElem_cons_succ, Act.put, List.setIfInBounds_toArray, List.set_cons_zero, List.set_cons_succ]
        refine wpAnyH_take (i := 10) (v := .slice pa na ca) rfl (by kernel_rfl) (by kernel_rfl) (by kernel_rfl) (fun _ _ _ h => h) (Or.inl ⟨by rfl, ?y10⟩) (by assumption) ?_
        case y10 => (intro w' hSw; obtain ⟨q1, q2, q3, q5⟩ := HSO.out w' hSw; go_simp)
        try simp only [List.getElem_toArray, List.getElem_cons_zero, List.getElem_cons_succ, Act.put, List.setIfInBounds_toArray, List.set_cons_zero, List.set_cons_succ]
        refine wpAnyH_take (i := 11) (v := .int .i64 x) rfl (by kernel_rfl) (by kernel_rfl) (by kernel_rfl) (fun _ _ _ h => h) (Or.inl ⟨by rfl, ?y11⟩) (by assumption) ?_
        case y11 => (intro w' hSw; obtain ⟨q1, q2, q3, q5⟩ := HSO.out w' hSw; go_simp)
        try simp only [List.getElem_toArray, List.getElem_cons_zero, List.getElem_cons_succ, Act.put, List.setIfInBounds_toArray, List.set_cons_zero, List.set_cons_succ]
        refine wpAnyH_take (i := 12) (v := .int .i64 (IntKind.i64.wrap (x - 1))) rfl (by kernel_rfl) (by kernel_rfl) (by kernel_rfl) (fun _ _ _ h => h) (Or.inl ⟨by rfl, ?y12⟩) (by assumption) ?_
        case y12 => (intro w' hSw; obtain ⟨q1, q2, q3, q5⟩ := HSO.out w' hSw; go_simp)
        try simp only [List.getElem_toArray, List.getElem_cons_zero, List.getElem_cons_succ, Act.put, List.setIfInBounds_toArray, List.set_cons_zero, List.set_cons_succ]
        refine wpAnyH_take (i := 13) (v := .slice (some ⟨b, o, none⟩) n cap) rfl (by kernel_rfl) (by kernel_rfl) (by kernel_rfl) (fun _ _ _ h => h) (Or.inl ⟨by rfl, ?y13⟩) (by assumption) ?_
        case y13 => (intro w' hSw; obtain ⟨q1, q2, q3, q5⟩ := HSO.out w' hSw; go_simp)
        try simp only [List.getElem_toArray, List.getElem_cons_zero, List.getElem_cons_succ, Act.put, List.setIfInBounds_toArray, List.set_cons_zero, List.set_cons_succ]
        refine wpAnyH_take (i := 14) (v := .int .i64 (i : Nat)) rfl (by kernel_rfl) (by kernel_rfl) (by kernel_rfl) (fun _ _ _ h => h) (Or.inl ⟨by rfl, ?y14⟩) (by assumption) ?_
        case y14 => (intro w' hSw; obtain ⟨q1, q2, q3, q5⟩ := HSO.out w' hSw; go_simp)
        try simp only [List.getElem_toArray, List.getElem_cons_zero, List.getElem_cons_succ, Act.put, List.setIfInBounds_toArray, List.set_cons_zero, List.set_cons_succ]
        refine wpAnyH_take (i := 15) (v := .pointer (some ⟨b, o + i * 7, none⟩)) rfl (by kernel_rfl) (by kernel_rfl) (by kernel_rfl) (fun _ _ _ h => h) (Or.inl ⟨by rfl, ?y15⟩) (by assumption) ?_
        case y15 => (intro w' hSw; obtain ⟨q1, q2, q3, q5⟩ := HSO.out w' hSw; go_simp)
        try simp only [List.getElem_toArray, List.getElem_cons_zero, List.getElem_cons_succ, Act.put, List.setIfInBounds_toArray, List.set_cons_zero, List.set_cons_succ]
        refine wpAnyH_take (i := 16) (v := .pointer (some ⟨b, o + i * 7 + 3, none⟩)) rfl (by kernel_rfl) (by kernel_rfl) (by kernel_rfl) (fun _ _ _ h => h) (Or.inl ⟨by rfl, ?y16⟩) (by assumption) ?_
        case y16 => (intro w' hSw; obtain ⟨q1, q2, q3, q5⟩ := HSO.out w' hSw; go_simp)
        try simp only [List.getElem_toArray, List.getElem_cons_zero, List.getElem_cons_succ, Act.put, List.setIfInBounds_toArray, List.set_cons_zero, List.set_cons_succ]
        refine wpAnyH_take (i := 17) (v := .string at_) rfl (by kernel_rfl) (by kernel_rfl) (by kernel_rfl) (fun _ _ _ h => h) (Or.inl ⟨by rfl, ?y17⟩) (by assumption) ?_
        case y17 => (intro w' hSw; obtain ⟨q1, q2, q3, q5⟩ := HSO.out w' hSw; go_simp)
        try simp only [List.getElem_toArray, List.getElem_cons_zero, List.getElem_cons_succ, Act.put, List.setIfInBounds_toArray, List.set_cons_zero, List.set_cons_succ]
        refine wpAnyH_take (i := 18) (v := .int .i64 (at_.size : Nat)) rfl (by kernel_rfl) (by kernel_rfl) (by kernel_rfl) (fun _ _ _ h => h) (Or.inl ⟨by rfl, ?y18⟩) (by assumption) ?_
        case y18 => (intro w' hSw; obtain ⟨q1, q2, q3, q5⟩ := HSO.out w' hSw; go_simp)
        try simp only [List.getElem_toArray, List.getElem_cons_zero, List.getElem_cons_succ, Act.put, List.setIfInBounds_toArray, List.set_cons_zero, List.set_cons_succ]
        refine wpAnyH_take (i := 19) (v := .int .i64 (IntKind.i64.wrap (IntKind.i64.wrap (x - 1) - (at_.size : Nat)))) rfl (by kernel_rfl) (by kernel_rfl) (by kernel_rfl) (fun _ _ _ h => h) (Or.inl ⟨by rfl, ?y19⟩) (by assumption) ?_
        case y19 => (intro w' hSw; obtain ⟨q1, q2, q3, q5⟩ := HSO.out w' hSw; go_simp)
        try simp only [List.getElem_toArray, List.getElem_cons_zero, List.getElem_cons_succ, Act.put, List.setIfInBounds_toArray, List.set_cons_zero, List.set_cons_succ]
        refine wpAnyH_take (i := 20) (v := .slice (some ⟨b, o, none⟩) n cap) rfl (by kernel_rfl) (by kernel_rfl) (by kernel_rfl) (fun _ _ _ h => h) (Or.inl ⟨by rfl, ?y20⟩) (by assumption) ?_
        case y20 => (intro w' hSw; obtain ⟨q1, q2, q3, q5⟩ := HSO.out w' hSw; go_simp)
        try simp only [List.getElem_toArray, List.getElem_cons_zero, List.getElem_cons_succ, Act.put, List.setIfInBounds_toArray, List.set_cons_zero, List.set_cons_succ]
        refine wpAnyH_take (i := 21) (v := .int .i64 (i : Nat)) rfl (by kernel_rfl) (by kernel_rfl) (by kernel_rfl) (fun _ _ _ h => h) (Or.inl ⟨by rfl, ?y21⟩) (by assumption) ?_
        case y21 => (intro w' hSw; obtain ⟨q1, q2, q3, q5⟩ := HSO.out w' hSw; go_simp)
        try simp only [List.getElem_toArray, List.getElem_cons_zero, List.getElem_cons_succ, Act.put, List.setIfInBounds_toArray, List.set_cons_zero, List.set_cons_succ]
        refine wpAnyH_take (i := 22) (v := .pointer (some ⟨b, o + i * 7, none⟩)) rfl (by kernel_rfl) (by kernel_rfl) (by kernel_rfl) (fun _ _ _ h => h) (Or.inl ⟨by rfl, ?y22⟩) (by assumption) ?_
        case y22 => (intro w' hSw; obtain ⟨q1, q2, q3, q5⟩ := HSO.out w' hSw; go_simp)
        try simp only [List.getElem_toArray, List.getElem_cons_zero, List.getElem_cons_succ, Act.put, List.setIfInBounds_toArray, List.set_cons_zero, List.set_cons_succ]
        refine wpAnyH_take (i := 23) (v := .pointer (some ⟨b, o + i * 7 + 5, none⟩)) rfl (by kernel_rfl) (by kernel_rfl) (by kernel_rfl) (fun _ _ _ h => h) (Or.inl ⟨by rfl, ?y23⟩) (by assumption) ?_
        case y23 => (intro w' hSw; obtain ⟨q1, q2, q3, q5⟩ := HSO.out w' hSw; go_simp)
        try simp only [List.getElem_toArray, List.getElem_cons_zero, List.getElem_cons_succ, Act.put, List.setIfInBounds_toArray, List.set_cons_zero, List.set_cons_succ]
        refine wpAnyH_take (i := 24) (v := .string tx) rfl (by kernel_rfl) (by kernel_rfl) (by kernel_rfl) (fun _ _ _ h => h) (Or.inl ⟨by rfl, ?y24⟩) (by assumption) ?_
        case y24 => (intro w' hSw; obtain ⟨q1, q2, q3, q5⟩ := HSO.out w' hSw; go_simp)
        try simp only [List.getElem_toArray, List.getElem_cons_zero, List.getElem_cons_succ, Act.put, List.setIfInBounds_toArray, List.set_cons_zero, List.set_cons_succ]
        refine wpAnyH_take (i := 25) (v := .int .i64 (tx.size : Nat)) rfl (by kernel_rfl) (by kernel_rfl) (by kernel_rfl) (fun _ _ _ h => h) (Or.inl ⟨by rfl, ?y25⟩) (by assumption) ?_
        case y25 => (intro w' hSw; obtain ⟨q1, q2, q3, q5⟩ := HSO.out w' hSw; go_simp)
        try simp only [List.getElem_toArray, List.getElem_cons_zero, List.getElem_cons_succ, Act.put, List.setIfInBounds_toArray, List.set_cons_zero, List.set_cons_succ]
        refine wpAnyH_take (i := 26) (v := .int .i64 (IntKind.i64.wrap (IntKind.i64.wrap (IntKind.i64.wrap (x - 1) - (at_.size : Nat)) - (tx.size : Nat)))) rfl (by kernel_rfl) (by kernel_rfl) (by kernel_rfl) (fun _ _ _ h => h) (Or.inl ⟨by rfl, ?y26⟩) (by assumption) ?_
        case y26 => (intro w' hSw; obtain ⟨q1, q2, q3, q5⟩ := HSO.out w' hSw; go_simp)
        try simp only [List.getElem_toArray, List.getElem_cons_zero, List.getElem_cons_succ, Act.put, List.setIfInBounds_toArray, List.set_cons_zero, List.set_cons_succ]
        refine wpAnyH_ready (rs := [27]) (by kernel_rfl) (by simp) ?_
        refine AllReadyH.cons rfl (fun K hK => ?_) AllReadyH.nil
        try simp only [List.getElem_toArray, List.getElem_cons_zero, List.getElem_cons_succ]
        go_simp
        refine (HCE.out).mono ?_
        rintro e Wy ⟨rfl, hby⟩
        have hSy : S Wy := HSB.out Wy hby
        have HBY := hide' hby
        have HCY := hide' (HCS.out Wy hby)
        clear hby
        refine hK.out _ _ hSy (fun hHeld9 => ?_)
        clear hK K
        try simp only [List.getElem_toArray, List.getElem_cons_zero, List.getElem_cons_succ, Act.put, List.setIfInBounds_toArray, List.set_cons_zero, List.set_cons_succ]
        refine wpAnyH_ready (rs := [28]) (by kernel_rfl) (by simp) ?_
        refine AllReadyH.cons rfl (fun K hK => ?_) AllReadyH.nil
        try simp only [List.getElem_toArray, List.getElem_cons_zero, List.getElem_cons_succ]
        go_simp
        refine (HCY.out).mono ?_
        rintro e Wz ⟨rfl, hbz⟩
        have hbz2 := HBY.out.trans (hbz.mono HBY.out.size)
        have hSz : S Wz := HSB.out Wz hbz2
        have HBZ := hide' hbz2
        clear hbz hbz2
        refine hK.out _ _ hSz (fun hHeld9 => ?_)
        clear hK K
        try simp only [List.getElem_toArray, List.getElem_cons_zero, List.getElem_cons_succ, Act.put, List.setIfInBounds_toArray, List.set_cons_zero, List.set_cons_succ]
        refine wpAnyH_take (i := 29) (v := .int .i64 y2) rfl (by kernel_rfl) (by kernel_rfl) (by kernel_rfl) (fun _ _ _ h => h) (Or.inl ⟨by rfl, ?y29⟩) (by assumption) ?_
        case y29 => (intro w' hSw; obtain ⟨q1, q2, q3, q5⟩ := HSO.out w' hSw; go_simp)
        try simp only [List.getElem_toArray, List.getElem_cons_zero, List.getElem_cons_succ, Act.put, List.setIfInBounds_toArray, List.set_cons_zero, List.set_cons_succ]
        refine wpAnyH_done (by kernel_rfl) ?_ _
        go_wp2
        exact ⟨⟨i + 1, y2, rfl, rfl, by omega, HNX, HLX, HBD.out.trans (HBZ.out.mono HBD.out.size)⟩, by simp [RowKit.intOf]; omega⟩
      · have ha : x = ans := by rw [← HA.out, Ak.agXs_neg _ (by omega)]
        have HA2 := hide' ha
        clear ha
        go_wp2
        go_ret
        exact ⟨by rw [HA2.out]; rfl, HB.out⟩
    · have t1 : ¬ (i : Int) < (n : Int) := by omega
      have ha : x = ans := by rw [← HA.out, List.drop_eq_nil_of_le (by have := HN.out; omega)]; rfl
      have HA2 := hide' ha
      clear ha
      go_wp2
      go_ret
      exact ⟨by rw [HA2.out]; rfl, HB.out⟩
theorem akRests : (∀ x : Ak.Sv, Ak.CL (Ak.wh x)) ∧ (∀ x : Ak.Xv, Ak.CL (Ak.ars x) ∧ Ak.CR (Ak.sts x)) := by
  have hs : ∀ ax te nm p c wh, (∀ a ∈ wh, (fun x : Ak.Xv => Ak.CL (Ak.ars x) ∧ Ak.CR (Ak.sts x)) a) → (fun x : Ak.Sv => Ak.CL (Ak.wh x)) (.mk ax te nm p c wh) := fun ax te nm p c wh ih => akRestList wh (fun a ha => (ih a ha).1) (fun a ha => (ih a ha).2)
  have hx : ∀ op p c ar sp sc st aa cm tx nu, (∀ a ∈ ar, (fun x : Ak.Xv => Ak.CL (Ak.ars x) ∧ Ak.CR (Ak.sts x)) a) → (∀ a ∈ st, (fun x : Ak.Sv => Ak.CL (Ak.wh x)) a) → (fun x : Ak.Xv => Ak.CL (Ak.ars x) ∧ Ak.CR (Ak.sts x)) (.mk op p c ar sp sc st aa cm tx nu) := fun op p c ar sp sc st aa cm tx nu ia is => ⟨akRestList ar (fun a ha => (ia a ha).1) (fun a ha => (ia a ha).2), akRest st is⟩
  exact ⟨Ak.Sv.ind hs hx, Ak.Xv.ind hs hx⟩
theorem akRestAll (l : List Ak.Sv) : Ak.CR l := akRest l fun a _ => akRests.1 a
namespace Ak
/-- is it too great? -/
def great (l : List Sp) : Bool := decide (agSs l 262144 < 0)
end Ak
set_option maxHeartbeats 1000000 in
theorem akGreat (l : List Ak.Sv) (W : World) (p : Option Addr) (c : Nat) (h : Ak.RowS W p c l) (hz : Ak.azSs (Ak.cSs l)) :
    Calls Tryz.prog 11 #[.agg #[.slice p l.length c]] W fun r w' => r = .returned (.bool (Ak.great (Ak.cSs l))) ∧ Below W.heap.size W w' := by
  obtain ⟨n, hn⟩ : ∃ n, l.length = n := ⟨_, rfl⟩
  have hb1 : Below W.heap.size W (W.alloc (.cells #[.slice p n c] 25)) := (Below.refl _ _).alloc (Nat.le_refl _) _
  have c0 := akRestAll l (W.alloc (.cells #[.slice p n c] 25)) p c 262144 (h.below hb1) hz (by unfold Ak.Low; omega) (by omega)
  unfold Ak.great
  obtain ⟨y, hy⟩ : ∃ y, Ak.agSs (Ak.cSs l) 262144 = y := ⟨_, rfl⟩
  rw [hy, hn] at c0
  rw [hy, hn]
  have C := hide' c0
  have HB1 := hide' hb1
  clear h hb1 c0 hy hn hz
  go_enter Tryz.func11, Tryz.ntmps11
  go_wp2_with fail
  refine C.out.mono ?_
  rintro e w2 ⟨rfl, hb2⟩
  have HB2 := hide' (HB1.out.trans (hb2.mono HB1.out.size))
  clear hb2 C
  go_wp2_with fail
  go_ret
  exact ⟨rfl, HB2.out⟩
end Go.Proofs.YtcnagbkdckipnaaGreatDoor
/-
  NOT A GREAT path: its rows are short, its twins say the same.
-/
namespace Go.Proofs.YtcnagbkdckipnaaGreatDoor
open Go.RowKit Go.Lib Go.Sort
namespace Ak
mutual
theorem bS_of : ∀ (x : Sv) (n : Int), azS (cS x) → 0 ≤ n → n ≤ 1048576 → 0 ≤ agS (cS x) n → bS x
  | .mk ax te nm p c wh, n, hz, h0, h1, h => by
    unfold cS at hz h
    unfold azS at hz
    unfold agS at h
    have := bXs_of wh _ hz.2 (by omega) h
    unfold bS
    exact ⟨by omega, this.2⟩
theorem bX_of : ∀ (x : Xv) (n : Int), azX (cX x) → 0 ≤ n → n ≤ 1048576 → 0 ≤ agX (cX x) n → bX x
  | .mk op p c ar sp sc st aa cm tx nu, n, hz, h0, h1, h => by
    unfold cX at hz h
    unfold azX at hz
    unfold agX at h
    have hl := agXs_low (cXs ar) (n - 1 - aa.size - tx.size) hz.2.2.1 (by unfold Low; omega)
    have h2 := bSs_of st _ hz.2.2.2 (by omega) h
    have h3 := bXs_of ar (n - 1 - aa.size - tx.size) hz.2.2.1 (by omega) (by omega)
    unfold bX
    exact ⟨⟨by omega, h3.2⟩, by omega, h2.2⟩
theorem bXs_of : ∀ (l : List Xv) (n : Int), azXs (cXs l) → n ≤ 1048576 → 0 ≤ agXs (cXs l) n → (l.length : Int) ≤ n ∧ bXs l
  | [], n, hz, h1, h => by
    unfold cXs agXs at h
    unfold bXs
    exact ⟨by simpa using h, trivial⟩
  | a :: l, n, hz, h1, h => by
    unfold cXs at hz h
    unfold azXs at hz
    unfold agXs at h
    by_cases hn : n < 0
    · rw [if_pos hn] at h; omega
    · rw [if_neg hn] at h
      have k1 := agX_low (cX a) n hz.1 (by omega)
      have k2 := bXs_of l _ hz.2 (by omega) h
      have k3 := bX_of a n hz.1 (by omega) h1 (by omega)
      unfold bXs
      exact ⟨by rw [List.length_cons]; omega, k3, k2.2⟩
theorem bSs_of : ∀ (l : List Sv) (n : Int), azSs (cSs l) → n ≤ 1048576 → 0 ≤ agSs (cSs l) n → (l.length : Int) ≤ n ∧ bSs l
  | [], n, hz, h1, h => by
    unfold cSs agSs at h
    unfold bSs
    exact ⟨by simpa using h, trivial⟩
  | a :: l, n, hz, h1, h => by
    unfold cSs at hz h
    unfold azSs at hz
    unfold agSs at h
    by_cases hn : n < 0
    · rw [if_pos hn] at h; omega
    · rw [if_neg hn] at h
      have k1 := agS_low (cS a) n hz.1 (by omega)
      have k2 := bSs_of l _ hz.2 (by omega) h
      have k3 := bS_of a n hz.1 (by omega) h1 (by omega)
      unfold bSs
      exact ⟨by rw [List.length_cons]; omega, k3, k2.2⟩
end
theorem not_great {l : List Sv} (hz : azSs (cSs l)) (h : great (cSs l) = false) : l.length ≤ 1048576 ∧ bSs l := by
  unfold great at h
  have h2 := bSs_of l 262144 hz (by omega) (by have := of_decide_eq_false h; omega)
  exact ⟨by omega, h2.2⟩
mutual
theorem eS_refl : ∀ x : Sp, eS x x = true
  | .mk ax te nm wh => by unfold eS; simp [eXs_refl wh]
theorem eX_refl : ∀ x : Xp, eX x x = true
  | .mk op ar st aa cm tx nu => by unfold eX; simp [eXs_refl ar, eSs_refl st]
theorem eXs_refl : ∀ l : List Xp, eXs l l = true
  | [] => by unfold eXs; rfl
  | a :: l => by unfold eXs; simp [eX_refl a, eXs_refl l]
theorem eSs_refl : ∀ l : List Sp, eSs l l = true
  | [] => by unfold eSs; rfl
  | a :: l => by unfold eSs; simp [eS_refl a, eSs_refl l]
end
end Ak
end Go.Proofs.YtcnagbkdckipnaaGreatDoor
