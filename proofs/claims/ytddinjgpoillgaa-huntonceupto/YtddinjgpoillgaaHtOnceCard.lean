/-
  PROVED: 'gimletlaw16.HuntOnce' returns true at every comparison, text and list of cuts that hold together at most 1048576 values and letters, and its arguments stay (the statement HuntOnceUptoSaid). No other condition.
-/
import Derived.Test.YtddinjgpoillgaaHtOnce
import Derived.Test.YtddinjgpoillgaaHtOps
namespace Go.Proofs.Ytddinjgpoillgaa
open Go.ChangeShapes Go.WideShapes Go.ChangeAt Go.RowKit
theorem htOwnO : ownKnob Try.prog.godebug = none := by kernel_rfl
theorem htLaidO : laidOutB Try.prog = true := by kernel_rfl
set_option maxHeartbeats 1600000 in
set_option maxRecDepth 100000 in
theorem htonce_lifted (os : Os) (started : os.Started) (H : Type) (enc : TypeId × Value → H) (F : Stop.Interp) :
    ReturnsInHanded {} Try.checked os 4 .any ((Rows.OpenSpec.upto Rows.huntOnceSpec).pre6 enc Try.prog Try.f4 Rows.huntOnceUptoRow.domain false) (((Rows.OpenSpec.upto Rows.huntOnceSpec).at F).post enc Try.prog Try.f4 false true false false) := by
  refine returnsInHanded_of_cond (C := Try.checked) (s := Rows.OpenSpec.upto Rows.huntOnceSpec) (k := Rows.uptoSmall) rfl htOwnO started (by kernel_rfl) Try.func4
    (OpenSpec.witness (enc := enc) (C := Try.checked) (s := Rows.OpenSpec.upto Rows.huntOnceSpec) (k := Rows.uptoSmall) rfl false ⟨#[], #[.agg #[.int .i64 0, .string .empty, .int .i64 0], .string .empty, .slice none 0 0], []⟩ 8 (by kernel_rfl) (by kernel_rfl) (by kernel_rfl)
      (x := ([.agg [.lit (.int .i64 0), .lit (.string []), .lit (.int .i64 0)], .lit (.string []), .nil], [], [])) (by kernel_rfl) rfl (by kernel_rfl)) ?_
  intro W base args ds gs before hval0 hW _ hk _
  have hval : ∀ (j : Nat) t v, Try.f4.params[j]? = some t → args[j]? = some v → Value.okWide Try.prog W .any base t v := hval0
  have hW' := hW
  obtain ⟨p, q, hA0, hV, rfl, _, _⟩ := hW
  have hA : DataW.TrodAll enc Try.prog W 0 (fun _ => true) true Try.f4.params.toList args.toList ds p := hA0
  rw [Try.params4] at hA hval
  obtain ⟨v0, vs0, d0, ds0, p0, q0, hargs, rfl, rfl, h0, r0⟩ := trodAll_cons hA
  obtain ⟨v1, vs1, d1, ds1, p1, q1, rfl, rfl, rfl, h1, r1⟩ := trodAll_cons r0
  obtain ⟨v2, vs2, d2, ds2, p2, q2, rfl, rfl, rfl, h2, r2⟩ := trodAll_cons r1
  obtain ⟨rfl, rfl, rfl⟩ := trodAll_nil r2
  obtain rfl : args = #[v0, v1, v2] := by cases args; simp_all
  obtain ⟨rfl, rfl⟩ := trodVars_none hV
  obtain ⟨cs, rfl, hcs⟩ := okWide_struct Try.underlying23 (hval 0 23 v0 rfl rfl)
  obtain ⟨s1, rfl, rfl, rfl, ws1⟩ := ChangeMaps.open_string Try.underlying9 (hval 1 9 v1 rfl rfl) h1
  obtain ⟨a2, n2, c2, rfl⟩ := okWide_slice Try.underlying43 (hval 2 43 v2 rfl rfl)
  have k0 := h0
  have k2 := h2
  have lt0 : ∀ x ∈ p0, x.block < W.heap.size := by obtain ⟨m, hm⟩ := k0; exact DataW.trod_lt m _ _ _ hm
  have lt2 : ∀ x ∈ p2, x.block < W.heap.size := by obtain ⟨m, hm⟩ := k2; exact DataW.trod_lt m _ _ _ hm
  clear hA0 hval0 hargs r0 r1 r2 hA
  have b0 := htBulk hk (d := d0) (by simp)
  have b1 := htBulk hk (d := .lit (.string s1.data.toList)) (by simp)
  have b2 := htBulk hk (d := d2) (by simp)
  simp only [Rows.uptoBulk] at b1
  obtain ⟨C, s, N, rfl, u1, u2, _, _⟩ := htAskedOf hcs h0
  obtain ⟨l, hl, hl2⟩ := htRiOf h2
  have e0 : Rn.arr (Rn.lf s.data.toList) s.data.toList.length = s := by rw [Rn.arr_lf]
  have e1 : Rn.arr (Rn.lf s1.data.toList) s1.data.toList.length = s1 := by rw [Rn.arr_lf]
  have hc := lawOnce C N (Rn.lf s.data.toList) s.data.toList.length (Rn.lf s1.data.toList) s1.data.toList.length _ l W (Rn.lf_lt _) (Rn.lf_lt _) (by omega) (by omega) u2 hl (by omega)
  rw [e0, e1] at hc
  refine hc.mono fun e W' ⟨he, hb⟩ => ?_
  subst he
  exact ⟨_, rfl, _, _, _, [], _, [], hW', trodAll_mk1 (shut_bool Try.underlying4 _), (trodAll_cons_mk (Below.trod htLaidO (by kernel_rfl) (of_decide_eq_true (by kernel_rfl)) k0 hb lt0) (trodAll_cons_mk (ChangeMaps.shut_string Try.underlying9 ws1) (trodAll_cons_mk (Below.trod htLaidO (by kernel_rfl) (of_decide_eq_true (by kernel_rfl)) k2 hb lt2) trodAll_mk0))), rfl, hb.frame _, fun h => by cases h⟩
theorem huntOnce_said : Rows.HuntOnceUptoSaid :=
  OpenClaim.holds_of_cond 4 Try.f4 rfl rfl rfl rfl rfl rfl rfl ⟨rfl, rfl, rfl, rfl, rfl⟩ rfl rfl rfl rfl rfl (by kernel_rfl) Try.func4 (by kernel_rfl)
    (of_decide_eq_true (by kernel_rfl)) (by unfold Func.isWrapper; first | (rw [if_pos (by decide +kernel)]; kernel_rfl) | (rw [if_neg (by decide +kernel)]; exact ⟨rfl, rfl⟩))
    (fun os started H enc _ F => htonce_lifted os started H enc F)
#print axioms huntOnce_said
end Go.Proofs.Ytddinjgpoillgaa
