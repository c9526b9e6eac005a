/-
  WALKS over kleene's constant, variable, denied.
-/
import Derived.Test.YtmpmlccomgepjaaKlLseM
namespace Go.Proofs.Ytmpmlccomgepjaa
open Go.RowKit Go.Lib Go.Sort
set_option maxRecDepth 100000 in
theorem klConstant (t : Int) (w : World) : Calls Try.prog 30 #[.int .i64 t] w fun r w' => r = .returned (.agg #[.int .i64 0, .int .i64 t, .int .i64 0, .slice none 0 0]) ∧ Below w.heap.size w w' := by
  go_enter Try.func30, Try.ntmps30
  go_wp2
  exact bodyPost_ret (v := .agg #[.int .i64 0, .int .i64 t, .int .i64 0, .slice none 0 0]) (by simp [results, Try.results30, go_sem]) rfl ⟨rfl, (Below.refl _ _).alloc (Nat.le_refl _) _⟩
namespace Kl
/-- the cells of a variable, or of what it is known to be -/
def varC (n t : Int) : Array Value := if t = 1 then #[.int .i64 1, .int .i64 0, .int .i64 n, .slice none 0 0] else #[.int .i64 0, .int .i64 t, .int .i64 0, .slice none 0 0]
theorem bc {W w1 : World} (hb : Below W.heap.size W w1) : (∀ b o, b < W.heap.size → w1.cell? ⟨b, o, none⟩ = W.cell? ⟨b, o, none⟩) ∧ (∀ b o, b < W.heap.size → w1.frozen? ⟨b, o, none⟩ = W.frozen? ⟨b, o, none⟩) :=
  ⟨fun b o h => hb.cell (p := ⟨b, o, none⟩) h, fun b o h => hb.frozen (p := ⟨b, o, none⟩) h⟩
end Kl
set_option maxRecDepth 100000 in
theorem klVariable (n t : Int) (w : World) : Calls Try.prog 31 #[.int .i64 n, .int .i64 t] w fun r w' => r = .returned (.agg (Kl.varC n t)) ∧ Below w.heap.size w w' := by
  unfold Kl.varC
  by_cases h : t = 1
  · subst h
    rw [if_pos rfl]
    go_enter Try.func31, Try.ntmps31
    go_wp2
    exact bodyPost_ret (v := .agg #[.int .i64 1, .int .i64 0, .int .i64 n, .slice none 0 0]) (by simp [results, Try.results31, go_sem]) rfl ⟨rfl, (Below.refl _ _).alloc (Nat.le_refl _) _⟩
  · rw [if_neg h]
    have hb : (t == 1) = false := by simpa using h
    clear h
    go_enter Try.func31, Try.ntmps31
    go_wp2_with (go_at_call 30; refine (klConstant _ _).mono ?_; rintro r w1 ⟨rfl, hb1⟩; obtain ⟨hc, hf⟩ := Kl.bc hb1; have hz : w.heap.size < w1.heap.size := (by have := hb1.size; simp at this; omega); have HB := hide' hb1; clear hb1)
    exact bodyPost_ret (v := .agg #[.int .i64 0, .int .i64 t, .int .i64 0, .slice none 0 0]) (by simp [results, Try.results31, go_sem, hc]) rfl ⟨rfl, ((((((Below.refl _ _).alloc (Nat.le_refl _) _).trans (HB.out.mono (by simp))).setCell (Nat.le_refl _) _).setCell (Nat.le_refl _) _).setCell (Nat.le_refl _) _).setCell (Nat.le_refl _) _⟩
namespace Kl
/-- what denied answers -/
def DenE (x : Fv) (w : World) (r : Ending) (w' : World) : Prop :=
  ∃ y : Fv, r = .returned (.agg y.enc.toArray) ∧ Lo w' y ∧ ct y = den (ct x) ∧ (∀ b ∈ fp y, b ∈ fp x ∨ w.heap.size ≤ b) ∧ Below w.heap.size w w'
theorem lo_leaf (w : World) (o v n : Int) (h : o = 0 ∨ o = 1) : Lo w (.mk o v n none 0 []) := .inl (.inl ⟨rfl, rfl, rfl, h⟩)
theorem fp_leaf (o v n : Int) : fp (.mk o v n none 0 []) = [] := by simp [fp, pb, fps]
end Kl
set_option maxRecDepth 100000 in
set_option maxHeartbeats 2000000 in
theorem klDenied (x : Kl.Fv) (w : World) (h : Kl.Lo w x) : Calls Try.prog 33 #[.agg x.enc.toArray] w fun r w' => Kl.DenE x w r w' := by
  by_cases h0 : x.op = 0
  · obtain ⟨xo, xv, xn, xp, xc, xl⟩ := x
    have h0' : xo = 0 := h0
    subst h0'
    obtain ⟨kx, hkx⟩ : ∃ k, xl.length = k := ⟨_, rfl⟩
    show Calls _ _ #[.agg #[.int .i64 0, .int .i64 xv, .int .i64 xn, .slice xp xl.length xc]] _ _
    rw [hkx]
    have HE : Hid (∀ w', Below w.heap.size w w' → Kl.DenE (.mk 0 xv xn xp xc xl) w (.returned (.agg #[.int .i64 0, .int .i64 (Kl.notT xv), .int .i64 0, .slice none 0 0])) w') := fun w' hb => ⟨.mk 0 (Kl.notT xv) 0 none 0 [], rfl, Kl.lo_leaf _ _ _ _ (.inl rfl), by rw [Kl.ct_mk, Kl.ct_mk]; unfold Kl.den; rw [if_pos (show (Kl.Fm.mk 0 xv xn _).op = 0 from rfl)]; rfl, by rw [Kl.fp_leaf]; simp, hb⟩
    obtain ⟨nt, hnt⟩ : ∃ nt, Kl.notT xv = nt := ⟨_, rfl⟩
    have cN := hide' (fun W => klNot xv W)
    simp only [hnt] at cN HE
    clear hkx hnt h h0
    go_enter Try.func33, Try.ntmps33
    go_wp2_with (first | (go_at_call 15; refine (cN.out _).mono ?_; rintro r w1 ⟨rfl, rfl⟩) | (go_at_call 30; refine (klConstant _ _).mono ?_; rintro r w1 ⟨rfl, hb1⟩; obtain ⟨hc, hf⟩ := Kl.bc hb1; have hz : w.heap.size + 1 < w1.heap.size := (by have := hb1.size; simp at this; omega); have HB := hide' hb1; clear hb1))
    exact bodyPost_ret (v := .agg #[.int .i64 0, .int .i64 nt, .int .i64 0, .slice none 0 0]) (by simp [results, Try.results33, go_sem, hc]) rfl (by
      refine HE.out _ (Below.setCell (Below.setCell (Below.setCell (Below.setCell ((((Below.refl _ _).alloc (Nat.le_refl _) _).alloc (by simp) _).trans (HB.out.mono (by simp; omega))) ?_ _) ?_ _) ?_ _) ?_ _)
      all_goals exact Nat.le_succ _)
  · by_cases h4 : x.op = 4
    · obtain ⟨y, g, c, rfl, y1, y2, y3, y4⟩ : ∃ h g c, x = .mk 4 0 0 (some ⟨g, 0, none⟩) c [h] ∧ Kl.Lo1 w h ∧ h.op ≠ 0 ∧ Kl.Rw w g c 1 (fun _ => h) ∧ g ∉ Kl.fp h := by
        rcases h with h | h
        · obtain ⟨xo, xv, xn, xp, xc, xl⟩ := x
          have h4' : xo = 4 := h4
          rcases h with ⟨_, _, _, q⟩ | ⟨q, _⟩ <;> omega
        · exact h
      have hr := y3.rng 0 (by omega)
      have HE : Hid (∀ w', Below w.heap.size w w' → Kl.DenE (.mk 4 0 0 (some ⟨g, 0, none⟩) c [y]) w (.returned (.agg y.enc.toArray)) w') := fun w' hb => ⟨y, rfl, .inl (y1.keep (Kl.Chs.of_below (L := []) hb) fun _ _ => by simp), by rw [Kl.ct_mk]; unfold Kl.den; rw [if_neg (by simp [Kl.Fm.op]), if_pos (show (Kl.Fm.mk 4 0 0 _).op = 4 from rfl)]; rfl, fun b hb => .inl (Kl.fp_in 4 0 0 _ c (by simp [Kl.fps, hb])), hb⟩
      have hgl := y3.lt
      obtain ⟨yo, yv, yn, yp, yc, yl⟩ := y
      obtain ⟨p0, p1, p2, p3⟩ := Kl.cells4 hr
      obtain ⟨ky, hky⟩ : ∃ k, yl.length = k := ⟨_, rfl⟩
      rw [hky] at p3
      have ex : (Kl.Fv.mk yo yv yn yp yc yl).enc.toArray = #[.int .i64 yo, .int .i64 yv, .int .i64 yn, .slice yp ky yc] := by simp only [Kl.Fv.enc, hky]
      simp only [ex] at HE
      simp only [Nat.zero_mul, Nat.zero_add] at p0 p1 p2 p3
      show Calls _ _ #[.agg #[.int .i64 4, .int .i64 0, .int .i64 0, .slice (some ⟨g, 0, none⟩) 1 c]] _ _
      clear hr y1 y2 y3 y4 h h0 h4 hky ex
      go_enter Try.func33, Try.ntmps33
      go_wp2
      exact bodyPost_ret (v := .agg #[.int .i64 yo, .int .i64 yv, .int .i64 yn, .slice yp ky yc]) (by simp [results, Try.results33, go_sem]) rfl (HE.out _ (((Below.refl _ _).alloc (Nat.le_refl _) _).alloc (by simp) _))
    · have hlo1 : Kl.Lo1 w x := by
        rcases h with h | ⟨y, g, c, rfl, _⟩
        · exact h
        · exact absurd rfl h4
      have hlt := h.ok.lt x
      have HE : Hid (∀ G w', Below w.heap.size w w' → w.heap.size ≤ G → (∃ cur, w'.heap[G]? = some (.cells cur 26 (0, 0)) ∧ cur = x.enc.toArray) → Kl.DenE x w (.returned (.agg #[.int .i64 4, .int .i64 0, .int .i64 0, .slice (some ⟨G, 0, none⟩) 1 1])) w') := fun G w' hb hG hcur => by
        obtain ⟨cur, q1, q2⟩ := hcur
        have hG' : G ∉ Kl.fp x := fun hb => by have := hlt G hb; omega
        refine ⟨.mk 4 0 0 (some ⟨G, 0, none⟩) 1 [x], rfl, .inr ⟨x, G, 1, rfl, hlo1.keep (Kl.Chs.of_below (L := []) hb) fun _ _ => by simp, h0, ⟨⟨cur, q1, by rw [q2]; simp [Kl.Fv.len]⟩, Nat.le_refl _, by unfold maxLen; omega, fun k hk j v hj => ?_⟩, hG'⟩, ?_, fun b hb => ?_, hb⟩
        · obtain rfl : k = 0 := by omega
          rw [Lib.cell_of_heap q1, q2]
          simpa using hj
        · rw [Kl.ct_mk]
          unfold Kl.den
          rw [if_neg (by rw [Kl.ct_op]; exact h0), if_neg (by rw [Kl.ct_op]; exact h4)]
          rfl
        · unfold Kl.fp at hb
          rcases List.mem_append.1 hb with q | q
          · obtain ⟨_, a, e, rfl⟩ := Kl.pb_of q
            cases e
            exact .inr hG
          · simp [Kl.fps] at q; exact .inl q
      obtain ⟨xo, xv, xn, xp, xc, xl⟩ := x
      have b0 : (xo == 0) = false := by simpa using (show ¬ xo = 0 from h0)
      have b4 : (xo == 4) = false := by simpa using (show ¬ xo = 4 from h4)
      obtain ⟨kx, hkx⟩ : ∃ k, xl.length = k := ⟨_, rfl⟩
      have ex : (Kl.Fv.mk xo xv xn xp xc xl).enc.toArray = #[.int .i64 xo, .int .i64 xv, .int .i64 xn, .slice xp kx xc] := by simp only [Kl.Fv.enc, hkx]
      simp only [ex] at HE ⊢
      clear h h0 h4 hlo1 hlt hkx ex
      go_enter Try.func33, Try.ntmps33
      go_wp2
      refine bodyPost_ret (v := .agg #[.int .i64 4, .int .i64 0, .int .i64 0, .slice (some ⟨w.heap.size + 1 + 1, 0, none⟩) 1 1]) (by simp [results, Try.results33, go_sem]) rfl ?_
      refine HE.out _ _ ((((Below.refl _ _).alloc (Nat.le_refl _) _).alloc (by simp) _).alloc (by simp; omega) _) (by omega) ⟨_, ?_, rfl⟩
      have := heap_alloc_new ((w.alloc (.cells #[.int .i64 xo, .int .i64 xv, .int .i64 xn, .slice xp kx xc] 26)).alloc (.cells #[.int .i64 4, .int .i64 0, .int .i64 0, .slice (some ⟨w.heap.size + 1 + 1, 0, none⟩) 1 1] 26)) (.cells #[.int .i64 xo, .int .i64 xv, .int .i64 xn, .slice xp kx xc] 26)
      simpa using this
end Go.Proofs.Ytmpmlccomgepjaa
