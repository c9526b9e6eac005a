/-
  PROVED: 'gimletlaw16.HuntTurned' returns true at every comparison and list of texts that hold together at most 1048576 values and letters, and its arguments stay (the statement HuntTurnedUptoSaid). No other condition.
-/
import Derived.Test.YtddinjgpoillgaaHtTurn
import Derived.Test.YtddinjgpoillgaaHtSrOps
namespace Go.Proofs.Ytddinjgpoillgaa
open Go.ChangeShapes Go.WideShapes Go.ChangeAt Go.RowKit
theorem htOwnT : ownKnob Try.prog.godebug = none := by kernel_rfl
theorem htLaidT : laidOutB Try.prog = true := by kernel_rfl
set_option maxHeartbeats 1600000 in
set_option maxRecDepth 100000 in
theorem htturned_lifted (os : Os) (started : os.Started) (H : Type) (enc : TypeId × Value → H) (F : Stop.Interp) :
    ReturnsInHanded {} Try.checked os 5 .any ((Rows.OpenSpec.upto Rows.huntTurnedSpec).pre6 enc Try.prog Try.f5 Rows.huntTurnedUptoRow.domain false) (((Rows.OpenSpec.upto Rows.huntTurnedSpec).at F).post enc Try.prog Try.f5 false true false false) := by
  refine returnsInHanded_of_cond (C := Try.checked) (s := Rows.OpenSpec.upto Rows.huntTurnedSpec) (k := Rows.uptoSmall) rfl htOwnT started (by kernel_rfl) Try.func5
    (OpenSpec.witness (enc := enc) (C := Try.checked) (s := Rows.OpenSpec.upto Rows.huntTurnedSpec) (k := Rows.uptoSmall) rfl false ⟨#[], #[.agg #[.int .i64 0, .string .empty, .int .i64 0], .slice none 0 0], []⟩ 8 (by kernel_rfl) (by kernel_rfl) (by kernel_rfl)
      (x := ([.agg [.lit (.int .i64 0), .lit (.string []), .lit (.int .i64 0)], .nil], [], [])) (by kernel_rfl) rfl (by kernel_rfl)) ?_
  intro W base args ds gs before hval0 hW _ hk _
  have hval : ∀ (j : Nat) t v, Try.f5.params[j]? = some t → args[j]? = some v → Value.okWide Try.prog W .any base t v := hval0
  have hW' := hW
  obtain ⟨p, q, hA0, hV, rfl, _, _⟩ := hW
  have hA : DataW.TrodAll enc Try.prog W 0 (fun _ => true) true Try.f5.params.toList args.toList ds p := hA0
  rw [Try.params5] at hA hval
  obtain ⟨v0, vs0, d0, ds0, p0, q0, hargs, rfl, rfl, h0, r0⟩ := trodAll_cons hA
  obtain ⟨v1, vs1, d1, ds1, p1, q1, rfl, rfl, rfl, h1, r1⟩ := trodAll_cons r0
  obtain ⟨rfl, rfl, rfl⟩ := trodAll_nil r1
  obtain rfl : args = #[v0, v1] := by cases args; simp_all
  obtain ⟨rfl, rfl⟩ := trodVars_none hV
  obtain ⟨cs, rfl, hcs⟩ := okWide_struct Try.underlying23 (hval 0 23 v0 rfl rfl)
  obtain ⟨a1, n1, c1, rfl⟩ := okWide_slice Try.underlying51 (hval 1 51 v1 rfl rfl)
  have k0 := h0
  have k1 := h1
  have lt0 : ∀ x ∈ p0, x.block < W.heap.size := by obtain ⟨m, hm⟩ := k0; exact DataW.trod_lt m _ _ _ hm
  have lt1 : ∀ x ∈ p1, x.block < W.heap.size := by obtain ⟨m, hm⟩ := k1; exact DataW.trod_lt m _ _ _ hm
  clear hA0 hval0 hargs r0 r1 hA
  have b0 := htBulk hk (d := d0) (by simp)
  have b1 := htBulk hk (d := d1) (by simp)
  obtain ⟨C, s, N, rfl, u1, u2, _, _⟩ := htAskedOf hcs h0
  obtain ⟨ps, hps, hp1, hp2⟩ := htSrOf h1
  have e0 : Rn.arr (Rn.lf s.data.toList) s.data.toList.length = s := by rw [Rn.arr_lf]
  have hc := lawTurned16 C N (Rn.lf s.data.toList) s.data.toList.length _ ps W (Rn.lf_lt _) (by omega) u2 hps (fun i => by
    have h1 := Ht.Lp_len ps i
    have h2 := htTakeSum (ps.map List.length) i
    rw [← List.map_take] at h2
    omega) (fun l hl => by have := htMemSum (List.mem_map.2 ⟨l, hl, rfl⟩ : l.length ∈ ps.map List.length); omega) (by omega)
  rw [e0] at hc
  refine hc.mono fun e W' ⟨he, hb⟩ => ?_
  subst he
  exact ⟨_, rfl, _, _, _, [], _, [], hW', trodAll_mk1 (shut_bool Try.underlying4 _), (trodAll_cons_mk (Below.trod htLaidT (by kernel_rfl) (of_decide_eq_true (by kernel_rfl)) k0 hb lt0) (trodAll_cons_mk (Below.trod htLaidT (by kernel_rfl) (of_decide_eq_true (by kernel_rfl)) k1 hb lt1) trodAll_mk0)), rfl, hb.frame _, fun h => by cases h⟩
theorem huntTurned_said : Rows.HuntTurnedUptoSaid :=
  OpenClaim.holds_of_cond 5 Try.f5 rfl rfl rfl rfl rfl rfl rfl ⟨rfl, rfl, rfl, rfl, rfl⟩ rfl rfl rfl rfl rfl (by kernel_rfl) Try.func5 (by kernel_rfl)
    (of_decide_eq_true (by kernel_rfl)) (by unfold Func.isWrapper; first | (rw [if_pos (by decide +kernel)]; kernel_rfl) | (rw [if_neg (by decide +kernel)]; exact ⟨rfl, rfl⟩))
    (fun os started H enc _ F => htturned_lifted os started H enc F)
#print axioms huntTurned_said
end Go.Proofs.Ytddinjgpoillgaa
