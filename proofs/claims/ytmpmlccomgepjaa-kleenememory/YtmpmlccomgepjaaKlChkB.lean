/-
  WALKS over kleene's Check and checkWith, and slices.IndexFunc, slices.ContainsFunc at truths.
-/
import Derived.Test.YtmpmlccomgepjaaKlChk
namespace Go.Proofs.Ytmpmlccomgepjaa
open Go.RowKit Go.Lib Go.Sort
namespace Kl
/-- are all of them values of the three? -/
def goodL (l : List Int) : Bool := l.all isT
theorem good_step {l : List Int} {i : Nat} {x : Int} (hx : l[i]? = some x) : goodL (l.drop i) = (isT x && goodL (l.drop (i + 1))) := by
  rw [List.drop_eq_getElem_cons (List.getElem?_eq_some_iff.1 hx).1, (List.getElem?_eq_some_iff.1 hx).2]
  rfl
theorem neg_of {k : Int} (h : 0 ≤ k ↔ true = false) : k < 0 := by simp at h; omega
theorem pos_of {k : Int} (h : 0 ≤ k ↔ false = false) : 0 ≤ k := h.2 rfl
/-- what an error of Check is -/
def erO (b : Bool) : Int := if b then 0 else 6
end Kl
set_option maxRecDepth 100000 in
theorem klCheck (x : Kl.Fv) (w : World) (hx : Kl.Ok w x) : Calls Try.prog 19 #[.agg x.enc.toArray] w fun e w' => e = .returned (.int .i64 (Kl.erO (Kl.isF (Kl.ct x) 131072))) ∧ Kl.Gr w w' := by
  have cI := fun w' (g : Kl.Gr w w') => klIsFormula x 131072 w' (Nat.le_refl _) (g.ok hx)
  obtain ⟨t, ht⟩ : ∃ t, Kl.isF (Kl.ct x) 131072 = t := ⟨_, rfl⟩
  rw [ht]
  simp only [ht] at cI
  obtain ⟨xo, xv, xn, xp, xc, xl⟩ := x
  obtain ⟨kx, hkx⟩ : ∃ k, xl.length = k := ⟨_, rfl⟩
  simp only [Kl.Fv.enc, hkx] at cI ⊢
  have CI := hide' (fun w' g => (show Calls Try.prog 35 #[.agg #[.int .i64 xo, .int .i64 xv, .int .i64 xn, .slice xp kx xc], .int .i64 131072] w' fun e w' => e = .returned (.bool t) ∧ _ from cI w' g))
  clear cI ht hkx hx
  cases t with
  | true =>
    go_enter Try.func19, Try.ntmps19
    go_wp2_with (go_at_call 35; refine (CI.out _ ((Kl.Gr.refl w).alloc _)).mono ?_; rintro e w' ⟨rfl, HGr⟩)
    go_ret
    exact ⟨rfl, ((Kl.Gr.refl w).alloc _).trans HGr⟩
  | false =>
    go_enter Try.func19, Try.ntmps19
    go_wp2_with (go_at_call 35; refine (CI.out _ ((Kl.Gr.refl w).alloc _)).mono ?_; rintro e w' ⟨rfl, HGr⟩)
    go_ret
    exact ⟨rfl, ((Kl.Gr.refl w).alloc _).trans HGr⟩
set_option maxRecDepth 100000 in
set_option maxHeartbeats 1000000 in
theorem klIndexNone (v : Value) (l : List Int) (w : World) (h : Kl.Ts w v l) : Calls Try.prog 39 #[v, .func (.func 25) #[] #[]] w fun e w' => (∃ k : Int, e = .returned (.int .i64 k) ∧ (0 ≤ k ↔ Kl.goodL l = false)) ∧ w' = w := by
  have eg : ∀ args w, (callFunc 25 args).run Try.prog w = .ok (.enter 25 args) w := enters_of Try.func25 (by kernel_rfl) rfl
  obtain ⟨p, cap, rfl, h1, h2, h3⟩ := h
  obtain ⟨n, hn⟩ : ∃ n, l.length = n := ⟨_, rfl⟩
  obtain ⟨t, ht⟩ : ∃ t, Kl.goodL l = t := ⟨_, rfl⟩
  rw [hn] at h1 h3 ⊢
  have H3 := hide' h3
  have HN := hide' hn
  have HT : Hid (Kl.goodL (l.drop 0) = t) := ht
  rw [ht]
  clear h3 hn ht
  go_enter Try.func39, Try.ntmps39
  go_wp2_with fail
  go_loop [8] (fun b => ∃ i : Nat, i ≤ n ∧ b = .int .i64 i ∧ Hid (Kl.goodL (l.drop i) = t)) (fun b => n - (RowKit.intOf b).toNat)
  case atStart => exact ⟨0, Nat.zero_le _, rfl, HT⟩
  case round =>
    clear HT
    obtain ⟨i, hi, rfl, HI⟩ := hrel
    by_cases hlt : i < n
    · have t1 : (i : Int) < (n : Int) := by omega
      obtain ⟨b, o, rfl, k⟩ := H3.out (by omega)
      obtain ⟨x, hx⟩ := Kl.some_of (l := l) (i := i) (by rw [HN.out]; exact hlt)
      have c0 := k i x hx
      have HS := hide' (Kl.good_step hx)
      have h5 := hide' (klIsNone x w)
      obtain ⟨y, hy⟩ : ∃ y, Kl.isT x = y := ⟨_, rfl⟩
      rw [hy] at HS h5
      clear k hx hy H3
      cases y with
      | true =>
        go_wp2_with (go_at_fn 25; refine h5.out.mono ?_; rintro e w' ⟨rfl, rfl⟩)
        go_round
        case rel => exact ⟨i + 1, by omega, by go_num, by have := HS.out; rw [Bool.true_and] at this; exact this.symm.trans HI.out⟩
        case measure => simp [RowKit.intOf]; omega
      | false =>
        have ht : Hid (t = false) := by have := HS.out; rw [Bool.false_and] at this; exact HI.out.symm.trans this
        go_wp2_with (go_at_fn 25; refine h5.out.mono ?_; rintro e w' ⟨rfl, rfl⟩)
        go_ret
        exact ⟨⟨i, rfl, by rw [ht.out]; simp⟩, rfl⟩
    · have t1 : ¬ (i : Int) < (n : Int) := by omega
      have ht : Hid (t = true) := by have := HI.out; rw [List.drop_eq_nil_of_le (by rw [HN.out]; omega)] at this; exact this.symm
      clear H3 HI
      go_wp2
      go_ret
      exact ⟨⟨-1, rfl, by rw [ht.out]; simp⟩, rfl⟩
set_option maxRecDepth 100000 in
theorem klHasNone (v : Value) (l : List Int) (w : World) (h : Kl.Ts w v l) : Calls Try.prog 24 #[v, .func (.func 25) #[] #[]] w fun e w' => e = .returned (.bool (!Kl.goodL l)) ∧ w' = w := by
  have c := hide' (klIndexNone v l w h)
  obtain ⟨p, cap, rfl, h1, h2, h3⟩ := h
  obtain ⟨n, hn⟩ : ∃ n, l.length = n := ⟨_, rfl⟩
  rw [hn] at c h1 ⊢
  clear h3 hn
  generalize Kl.goodL l = t at c ⊢
  cases t with
  | true =>
    go_enter Try.func24, Try.ntmps24
    go_wp2_with (go_at_call 39; refine c.out.mono ?_; rintro e w' ⟨⟨k, rfl, hk⟩, rfl⟩; have hk2 := Kl.neg_of hk; clear hk)
    go_ret
    exact ⟨Kl.ret_bool (decide_eq_false (by omega)), rfl⟩
  | false =>
    go_enter Try.func24, Try.ntmps24
    go_wp2_with (go_at_call 39; refine c.out.mono ?_; rintro e w' ⟨⟨k, rfl, hk⟩, rfl⟩; have hk2 := Kl.pos_of hk; clear hk)
    go_ret
    exact ⟨rfl, rfl⟩
set_option maxRecDepth 100000 in
theorem klCheckWith (x : Kl.Fv) (v : Value) (l : List Int) (w : World) (hx : Kl.Ok w x) (hv : Kl.Ts w v l) : Calls Try.prog 16 #[.agg x.enc.toArray, v] w fun e w' => e = .returned (.int .i64 (Kl.erO (Kl.goodL l && Kl.isF (Kl.ct x) 131072))) ∧ Kl.Gr w w' := by
  have cI := fun w' (g : Kl.Gr w w') => klCheck x w' (g.ok hx)
  have cH := fun w' (g : Kl.Gr w w') => klHasNone v l w' (hv.below g.below)
  obtain ⟨p, cap, rfl, h1, h2, h3⟩ := hv
  obtain ⟨n, hn⟩ : ∃ n, l.length = n := ⟨_, rfl⟩
  simp only [hn] at cH ⊢
  obtain ⟨t, ht⟩ : ∃ t, Kl.isF (Kl.ct x) 131072 = t := ⟨_, rfl⟩
  obtain ⟨s, hs⟩ : ∃ t, Kl.goodL l = t := ⟨_, rfl⟩
  rw [ht, hs]
  simp only [ht, hs] at cI cH
  obtain ⟨xo, xv, xn, xp, xc, xl⟩ := x
  obtain ⟨kx, hkx⟩ : ∃ k, xl.length = k := ⟨_, rfl⟩
  simp only [Kl.Fv.enc, hkx] at cI ⊢
  have CI := hide' cI
  have CH := hide' cH
  clear cI ht hkx hx cH hs hn h3
  cases s with
  | true =>
    rw [Bool.true_and]
    obtain ⟨er, her⟩ : ∃ er, Kl.erO t = er := ⟨_, rfl⟩
    rw [her] at CI ⊢
    clear her
    go_enter Try.func16, Try.ntmps16
    go_wp2_with (first | (go_at_call 24; refine (CH.out _ ((Kl.Gr.refl w).alloc _)).mono ?_; rintro e w' ⟨rfl, rfl⟩) | (go_at_call 19; refine (CI.out _ ((Kl.Gr.refl w).alloc _)).mono ?_; rintro e w' ⟨rfl, HGr⟩))
    go_ret
    exact ⟨rfl, ((Kl.Gr.refl w).alloc _).trans HGr⟩
  | false =>
    go_enter Try.func16, Try.ntmps16
    go_wp2_with (first | (go_at_call 24; refine (CH.out _ ((Kl.Gr.refl w).alloc _)).mono ?_; rintro e w' ⟨rfl, rfl⟩))
    go_ret
    exact ⟨rfl, (Kl.Gr.refl w).alloc _⟩
end Go.Proofs.Ytmpmlccomgepjaa
