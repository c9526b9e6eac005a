/-
  The survey's functions tied together; WALKS over ask.look, ask.Check.
-/
import Derived.Test.YtcnagbkdckipnaaGreatDoorAkCkS
namespace Go.Proofs.YtcnagbkdckipnaaGreatDoor
open Go.RowKit Go.Lib Go.Sort
namespace Ak
mutual
/-- no string is longer than one can be -/
def zS : Sv → Prop | .mk _ _ nm _ _ wh => nm.size ≤ 9223372036854775807 ∧ zXs wh
def zX : Xv → Prop | .mk _ _ _ ar _ _ st aa _ tx _ => (aa.size ≤ 9223372036854775807 ∧ tx.size ≤ 9223372036854775807) ∧ zXs ar ∧ zSs st
def zXs : List Xv → Prop
  | [] => True
  | a :: l => zX a ∧ zXs l
def zSs : List Sv → Prop
  | [] => True
  | a :: l => zS a ∧ zSs l
end
theorem zXs_mem : ∀ {l : List Xv}, zXs l → ∀ a ∈ l, zX a
  | [], _, _, h => by simp at h
  | b :: l, h, a, ha => by
    unfold zXs at h
    rcases List.mem_cons.1 ha with rfl | ha
    · exact h.1
    · exact zXs_mem h.2 a ha
theorem zSs_mem : ∀ {l : List Sv}, zSs l → ∀ a ∈ l, zS a
  | [], _, _, h => by simp at h
  | b :: l, h, a, ha => by
    unfold zSs at h
    rcases List.mem_cons.1 ha with rfl | ha
    · exact h.1
    · exact zSs_mem h.2 a ha
end Ak
theorem ckAll {w0 : World} {NB QB : ByteArray → Bool} (hx : Ak.CkX w0 NB QB) : (∀ x, Ak.zS x → Ak.StepS w0 NB QB x) ∧ ∀ x, Ak.zX x → Ak.ExprS w0 NB QB x := by
  have hs : ∀ ax te nm p c wh, (∀ a ∈ wh, Ak.zX a → Ak.ExprS w0 NB QB a) → Ak.zS (.mk ax te nm p c wh) → Ak.StepS w0 NB QB (.mk ax te nm p c wh) := fun ax te nm p c wh ih hz => by
    unfold Ak.zS at hz
    exact ckStep hx ax te nm p c wh hz.1 (fun a ha => ih a ha (Ak.zXs_mem hz.2 a ha))
  have he : ∀ op p c ar sp sc st aa cm tx nu, (∀ a ∈ ar, Ak.zX a → Ak.ExprS w0 NB QB a) → (∀ a ∈ st, Ak.zS a → Ak.StepS w0 NB QB a) → Ak.zX (.mk op p c ar sp sc st aa cm tx nu) → Ak.ExprS w0 NB QB (.mk op p c ar sp sc st aa cm tx nu) := fun op p c ar sp sc st aa cm tx nu ia is hz => by
    unfold Ak.zX at hz
    have ia2 := fun a ha => ia a ha (Ak.zXs_mem hz.2.1 a ha)
    have is2 := fun a ha => is a ha (Ak.zSs_mem hz.2.2 a ha)
    by_cases h01 : op = 0 ∨ op = 1
    · exact ckExprAo op p c ar sp sc st aa cm tx nu h01 (ckParts op p c ar sp sc st aa cm tx nu ia2)
    by_cases h2 : op = 2
    · exact ckExprNot op p c ar sp sc st aa cm tx nu h2 ia2
    by_cases h3 : op = 3
    · exact ckExprSome hx op p c ar sp sc st aa cm tx nu h3 hz.1.1 hz.1.2 is2
    exact ckExprNo op p c ar sp sc st aa cm tx nu ⟨fun e => h01 (.inl e), fun e => h01 (.inr e), h2, h3⟩
  exact ⟨Ak.Sv.ind (P := fun x => Ak.zS x → Ak.StepS w0 NB QB x) (Q := fun x => Ak.zX x → Ak.ExprS w0 NB QB x) hs he, Ak.Xv.ind (P := fun x => Ak.zS x → Ak.StepS w0 NB QB x) (Q := fun x => Ak.zX x → Ak.ExprS w0 NB QB x) hs he⟩
namespace Ak
theorem sySize : (Tryz.prog.info? 160).map (·.size) = some 2 := by kernel_rfl
theorem load_sy {w : World} {b : Nat} {u v : Value} (h : w.heap[b]? = some (.cells #[u, v] 160 (0, 0))) : (loadVar 160 ⟨b, 0, none⟩).run Tryz.prog w = .ok (.agg #[u, v]) w := by
  have := run_loadVar_mid (P := Tryz.prog) w b 0 160 [u, v] _ (range_of h) Tryz.underlying160 rfl (by rw [sySize]; simp)
  simpa using this
/-- what look answers -/
def LkE (W : World) : Option Sy → Ending → World → Prop
  | some s, r, w' => r = .returned (.tuple #[.agg #[.int .i64 s.1, .int .i64 (s.2 : Nat)], .int .i64 0]) ∧ Below W.heap.size W w'
  | none, r, w' => r = .returned (.tuple #[.agg #[.int .i64 0, .int .i64 0], .int .i64 6]) ∧ Below W.heap.size W w'
end Ak
set_option maxRecDepth 100000 in
set_option maxHeartbeats 4000000 in
theorem ckLook {w0 : World} {NB QB : ByteArray → Bool} (hx : Ak.CkX w0 NB QB) (l : List Ak.Sv) (hz : Ak.zSs l) (W : World) (p : Option Addr) (c : Nat) (hR : Ak.RowS w0 p c l) (hb : Below w0.heap.size w0 W) :
    Calls Tryz.prog 86 #[.agg #[.slice p l.length c]] W (Ak.LkE W (Ak.pathC NB QB (Ak.cSs l) 0 (0, 0))) := by
  obtain ⟨B, hB⟩ : ∃ B, W.heap.size = B := ⟨_, rfl⟩
  have hb1 : Below W.heap.size W (((W.alloc (.cells #[.slice p l.length c] 25)).alloc (.cells #[.int .i64 0, .int .i64 0] 160)).alloc (.cells #[.int .i64 0, .int .i64 0] 160)) := (((Below.refl _ _).alloc (Nat.le_refl _) _).alloc (by rw [World.size_alloc]; omega) _).alloc (by rw [World.size_alloc, World.size_alloc]; omega) _
  obtain ⟨W1, hW1⟩ : ∃ X, X = ((W.alloc (.cells #[.slice p l.length c] 25)).alloc (.cells #[.int .i64 0, .int .i64 0] 160)).alloc (.cells #[.int .i64 0, .int .i64 0] 160) := ⟨_, rfl⟩
  rw [← hW1] at hb1
  have hs1 : W1.heap.size = B + 3 := by rw [hW1, World.size_alloc, World.size_alloc, World.size_alloc, hB]
  have hc : Ak.SvC W1 (B + 2) (0, 0) := by
    rw [hW1, ← hB]
    have := Ak.heap_new ((W.alloc (.cells #[.slice p l.length c] 25)).alloc (.cells #[.int .i64 0, .int .i64 0] 160)) (.cells #[.int .i64 0, .int .i64 0] 160)
    rw [World.size_alloc, World.size_alloc] at this
    exact this
  have hr : W1.heap[B + 1]? = some (.cells #[.int .i64 0, .int .i64 0] 160 (0, 0)) := by
    rw [hW1, ← hB]
    have := Ak.heap_new (W.alloc (.cells #[.slice p l.length c] 25)) (.cells #[.int .i64 0, .int .i64 0] 160)
    rw [World.size_alloc] at this
    exact ((Below.refl _ _).alloc (Nat.le_refl _) _ |>.block (W.heap.size + 1) (by rw [World.size_alloc, World.size_alloc]; omega)).trans this
  have hlo := hb.size
  have C := ckPath l (fun a ha => (ckAll hx).1 a (Ak.zSs_mem hz a ha)) W1 (B + 2) (0, 0) p c 0 (hb.trans (hb1.mono hb.size)) (by omega) hR hc (by omega)
  obtain ⟨R, hR2⟩ : ∃ R, Ak.pathC NB QB (Ak.cSs l) 0 (0, 0) = R := ⟨_, rfl⟩
  rw [hR2] at C ⊢
  obtain ⟨n, hn⟩ : ∃ n, l.length = n := ⟨_, rfl⟩
  rw [hn] at C hW1 ⊢
  have HC := hide' C
  have HW1 := hide' hW1
  have HB1 := hide' hb1
  have HR := hide' hr
  clear C hW1 hb1 hr hc hR2 hn hR hb hlo
  cases R with
  | none =>
    go_enter Tryz.func86, Tryz.ntmps86
    go_wp2_with fail
    change Calls _ _ _ (((W.alloc (.cells #[.slice p n c] 25)).alloc (.cells #[.int .i64 0, .int .i64 0] 160)).alloc (.cells #[.int .i64 0, .int .i64 0] 160)) _
    rw [← HW1.out]
    refine HC.out.mono ?_
    rintro e w2 ⟨rfl, hq⟩
    have hr2 := (hq.block (B + 1) (by omega) (by omega)).trans HR.out
    have z0 : w2.cell? ⟨B + 1, 0, none⟩ = some (.int .i64 0) := by rw [Lib.cell_of_heap hr2]; rfl
    have z1 : w2.cell? ⟨B + 1, 1, none⟩ = some (.int .i64 0) := by rw [Lib.cell_of_heap hr2]; rfl
    have f0 := Lib.frozen_of_heap hr2 0
    have f1 := Lib.frozen_of_heap hr2 1
    have h1 := Go.Joins.block_setCell (i := 0) hr2 (.int .i64 0)
    have h2 := Go.Joins.block_setCell (i := 1) h1 (.int .i64 0)
    have HR2 := hide' h2
    have HB2 := hide' (Ak.below_far (Ak.below_far (Ak.Pb.new HB1.out hq (by omega)) (N := B + 1) (by omega) 0 (.int .i64 0)) (N := B + 1) (by omega) 1 (.int .i64 0))
    clear hq hr2 h1 h2 HC
    go_wp2_with fail
    refine bodyPost_ret (Ak.results_ct Tryz.results86 _ ⟨B + 1, 0, none⟩ rfl _ _ (Ak.load_sy HR2.out)) rfl ?_
    exact ⟨rfl, HB2.out⟩
  | some s =>
    obtain ⟨z, k⟩ := s
    go_enter Tryz.func86, Tryz.ntmps86
    go_wp2_with fail
    change Calls _ _ _ (((W.alloc (.cells #[.slice p n c] 25)).alloc (.cells #[.int .i64 0, .int .i64 0] 160)).alloc (.cells #[.int .i64 0, .int .i64 0] 160)) _
    rw [← HW1.out]
    refine HC.out.mono ?_
    rintro e w2 ⟨rfl, hq, hc⟩
    have hr2 := (hq.block (B + 1) (by omega) (by omega)).trans HR.out
    have z0 : w2.cell? ⟨B + 1, 0, none⟩ = some (.int .i64 0) := by rw [Lib.cell_of_heap hr2]; rfl
    have z1 : w2.cell? ⟨B + 1, 1, none⟩ = some (.int .i64 0) := by rw [Lib.cell_of_heap hr2]; rfl
    have f0 := Lib.frozen_of_heap hr2 0
    have f1 := Lib.frozen_of_heap hr2 1
    have y0 : w2.cell? ⟨B + 2, 0, none⟩ = some (.int .i64 z) := by rw [Lib.cell_of_heap hc]; rfl
    have y1 : w2.cell? ⟨B + 2, 1, none⟩ = some (.int .i64 (k : Nat)) := by rw [Lib.cell_of_heap hc]; rfl
    have h1 := Go.Joins.block_setCell (i := 0) hr2 (.int .i64 z)
    have h2 := Go.Joins.block_setCell (i := 1) h1 (.int .i64 (k : Nat))
    have HR2 := hide' h2
    have HB2 := hide' (Ak.below_far (Ak.below_far (Ak.Pb.new HB1.out hq (by omega)) (N := B + 1) (by omega) 0 (.int .i64 z)) (N := B + 1) (by omega) 1 (.int .i64 (k : Nat)))
    clear hq hr2 h1 h2 HC hc
    go_wp2_with fail
    refine bodyPost_ret (Ak.results_ct Tryz.results86 _ ⟨B + 1, 0, none⟩ rfl _ _ (Ak.load_sy HR2.out)) rfl ?_
    exact ⟨rfl, HB2.out⟩
set_option maxRecDepth 100000 in
set_option maxHeartbeats 2000000 in
theorem ckCheck {w0 : World} {NB QB : ByteArray → Bool} (hx : Ak.CkX w0 NB QB) (l : List Ak.Sv) (hz : Ak.zSs l) (W : World) (p : Option Addr) (c : Nat) (hR : Ak.RowS w0 p c l) (hb : Below w0.heap.size w0 W) :
    Calls Tryz.prog 53 #[.agg #[.slice p l.length c]] W fun r w' => r = .returned (.int .i64 (if (Ak.pathC NB QB (Ak.cSs l) 0 (0, 0)).isSome = true then 0 else 6)) ∧ Below W.heap.size W w' := by
  have hb1 : Below W.heap.size W (W.alloc (.cells #[.slice p l.length c] 25)) := (Below.refl _ _).alloc (Nat.le_refl _) _
  have C := ckLook hx l hz (W.alloc (.cells #[.slice p l.length c] 25)) p c hR (hb.trans (hb1.mono hb.size))
  obtain ⟨R, hR2⟩ : ∃ R, Ak.pathC NB QB (Ak.cSs l) 0 (0, 0) = R := ⟨_, rfl⟩
  rw [hR2] at C ⊢
  obtain ⟨n, hn⟩ : ∃ n, l.length = n := ⟨_, rfl⟩
  rw [hn] at C hb1 ⊢
  have HB1 := hide' hb1
  clear hR2 hn hR hb hb1
  cases R with
  | none =>
    go_enter Tryz.func53, Tryz.ntmps53
    go_wp2_with fail
    refine C.mono ?_
    rintro e w2 ⟨rfl, hb2⟩
    have HB2 := hide' ((HB1.out.trans (hb2.mono HB1.out.size)).alloc (Nat.le_trans HB1.out.size hb2.size) (.cells #[.int .i64 0, .int .i64 0] 160))
    clear C hb2
    go_wp2_with fail
    go_ret
    exact ⟨rfl, HB2.out⟩
  | some s =>
    obtain ⟨z, k⟩ := s
    go_enter Tryz.func53, Tryz.ntmps53
    go_wp2_with fail
    refine C.mono ?_
    rintro e w2 ⟨rfl, hb2⟩
    have HB2 := hide' ((HB1.out.trans (hb2.mono HB1.out.size)).alloc (Nat.le_trans HB1.out.size hb2.size) (.cells #[.int .i64 z, .int .i64 (k : Nat)] 160))
    clear C hb2
    go_wp2_with fail
    go_ret
    exact ⟨rfl, HB2.out⟩
end Go.Proofs.YtcnagbkdckipnaaGreatDoor
