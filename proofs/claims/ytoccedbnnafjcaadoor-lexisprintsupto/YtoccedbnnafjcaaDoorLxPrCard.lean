/-
  PROVED: 'gimletlaw10.LexisPrints' returns true at every input, where what it reads is of bulk at most 1048576 (the card LexisPrintsUptoCardSaid). The conditions: the program's table of ranges, its signs, utf8's tables and strconv's table of powers start as the program's text lays them (the card ties them).
-/
import Derived.Test.YtoccedbnnafjcaaDoorLxPrZ
import Derived.Test.YtoccedbnnafjcaaDoorLxPrTabs
import Derived.Test.YtoccedbnnafjcaaDoorCards
import Derived.Test.YtoccedbnnafjcaaDoorTie
import Derived.SevenTiedAt
import Derived.ChangeMaps5
import Derived.OpenShut
namespace Go.Proofs.YtoccedbnnafjcaaDoor
open Go.RowKit Go.Shelf Go.Lib
open Go.ChangeShapes Go.WideShapes Go.ChangeAt

theorem lxpr_reads (os : Os) {H : Type} (enc : TypeId × Value → H) : ∃ places, DataW.whole enc Tryd.checked.prog ((World.laidAll Tryd.prog os theLaidP).forCall (fun _ _ => 0) ⟨#[], #[.slice none 0 0, .slice none 0 0], []⟩).memory Tryd.f4.params.toList (Rows.OpenSpec.upto Rows.lexisPrintsSpec).vars false #[Value.slice none 0 0, .slice none 0 0].toList 8 = some ([.nil, .nil], [], places) :=
  ⟨[], by kernel_rfl⟩

set_option maxRecDepth 100000 in
theorem lxpr_lifted (os : Os) (started : os.Started) (H : Type) (enc : TypeId × Value → H) (F : Stop.Interp) :
    ReturnsInHanded {} Tryd.checked os 4 .any ((Rows.OpenSpec.upto Rows.lexisPrintsSpec).preRow enc Tryd.prog Tryd.f4 Rows.lexisPrintsUptoRow.domain false Rows.lexisPrintsUptoRow.laid) (((Rows.OpenSpec.upto Rows.lexisPrintsSpec).at F).post enc Tryd.prog Tryd.f4 false true false false) := by
  obtain ⟨places, hx⟩ := lxpr_reads os enc
  refine returnsInHanded_of_row (C := Tryd.checked) (s := Rows.OpenSpec.upto Rows.lexisPrintsSpec) own started (by kernel_rfl) Tryd.func4
    (uptoP_witness (fn := Tryd.f4) #[.slice none 0 0, .slice none 0 0] _ rfl (by kernel_rfl) 8 hx (by kernel_rfl) (fun k hk => by cases hk; kernel_rfl) (by kernel_rfl)) ?_
  intro W base args ds gs before hval0 hW _ hcond _ hL _ _
  have hk := hcond _ rfl
  have hval : ∀ (j : Nat) t v, Tryd.f4.params[j]? = some t → args[j]? = some v → Value.okWide Tryd.prog W .any base t v := hval0
  have hW' := hW
  obtain ⟨p, q, hA0, hV, rfl, _, _⟩ := hW
  have hA : DataW.TrodAll enc Tryd.prog W 0 (fun _ => true) true Tryd.f4.params.toList args.toList ds p := hA0
  rw [Tryd.params4] at hA hval
  obtain ⟨v0, vs0, d0, ds0, p0, q0, hargs, rfl, rfl, h0, r0⟩ := trodAll_cons hA
  obtain ⟨v1, vs1, d1, ds1, p1, q1, rfl, rfl, rfl, h1, r1⟩ := trodAll_cons r0
  obtain ⟨rfl, rfl, rfl⟩ := trodAll_nil r1
  obtain rfl : args = #[v0, v1] := by cases args; simp_all
  obtain ⟨rfl, rfl⟩ := trodVars_none hV
  obtain ⟨a0, len0, cap0, rfl⟩ := okWide_slice Tryd.underlying24 (hval 0 24 v0 rfl rfl)
  have k0 := h0
  have lt0 : ∀ x ∈ p0, x.block < W.heap.size := by obtain ⟨m, hm⟩ := k0; exact DataW.trod_lt m _ _ _ hm
  obtain ⟨X, hX0, hX1, hd0⟩ := wargs_of h0
  obtain ⟨a1, len1, cap1, rfl⟩ := okWide_slice Tryd.underlying22 (hval 1 22 v1 rfl rfl)
  have k1 := h1
  have lt1 : ∀ x ∈ p1, x.block < W.heap.size := by obtain ⟨m, hm⟩ := k1; exact DataW.trod_lt m _ _ _ hm
  obtain ⟨f1, hA1', hf1, hd1⟩ := argS_of h1
  clear hA0 hval0
  have hb0 : len0 ≤ 1048576 ∧ ∀ i, i < len0 → (X i).tx.size ≤ 1048576 := by
    rcases hd0 with h | ⟨el, sp, rfl, h2, h3⟩
    · exact ⟨by omega, fun i hi => by omega⟩
    · have h4 := bulk_bound hk (d := .slice el sp) (by simp)
      have h5 := bulk_length el
      simp only [Rows.uptoBulk] at h4
      refine ⟨by omega, fun i hi => ?_⟩
      obtain ⟨x, hx, h6⟩ := h3 i hi
      have h7 := bulk_part hx
      omega
  have hb1 : len1 ≤ 1048576 := bulk_slice hk (by simp) hd1
  obtain ⟨hT, hS, hG, hP⟩ := tabsP_of_laid hL
  have hc := lawPrints_any _ _ len0 len1 X f1 W hT hS hG hP hf1 hb1 hb0.1 hX0 (fun i hi => ⟨hb0.2 i hi, hX1 i hi⟩) hA1'
  refine hc.mono fun e W' ⟨he, bel⟩ => ?_
  subst he
  exact ⟨_, rfl, _, _, _, [], _, [], hW', trodAll_mk1 (shut_bool Tryd.underlying4 _), (trodAll_cons_mk (Below.trod laidOut (by kernel_rfl) (of_decide_eq_true (by kernel_rfl)) k0 bel lt0) (trodAll_cons_mk (Below.trod laidOut (by kernel_rfl) (of_decide_eq_true (by kernel_rfl)) k1 bel lt1) trodAll_mk0)), rfl, bel.frame _, fun h => by cases h⟩

theorem lxpr_said : Rows.LexisPrintsUptoSaid :=
  OpenClaim.holds_of_cond 4 Tryd.f4 rfl rfl rfl rfl rfl rfl rfl ⟨rfl, rfl, rfl, rfl, rfl⟩ rfl rfl rfl rfl rfl (by kernel_rfl) Tryd.func4 (by kernel_rfl)
    (of_decide_eq_true (by kernel_rfl)) (by unfold Func.isWrapper; rw [if_neg (by decide +kernel)]; exact ⟨rfl, rfl⟩)
    (fun os started H enc _ F => by rw [OpenClaim.pre_eq_preRow]; exact lxpr_lifted os started H enc F)

theorem lxpr_plain (f : FuncId) (fn : Func) (hf : Tryd.pinned.checked.prog.funcNamed "gimlet/gimletlaw10.LexisPrints" = some f) (hfn : Tryd.pinned.checked.prog.funcs[f]? = some fn) :
    true = Tryd.pinned.checked.prog.looks [] ∧ ∀ (j : Nat) t, fn.params[j]? = some t → Tryd.pinned.checked.prog.wantsStandIn t = false := by
  obtain rfl : f = 4 := Option.some.inj ((show Tryd.prog.funcNamed "gimlet/gimletlaw10.LexisPrints" = some 4 by kernel_rfl).symm.trans hf) |>.symm
  obtain rfl : fn = Tryd.f4 := (Option.some.inj (Tryd.func4.symm.trans hfn)).symm
  refine ⟨by kernel_rfl, fun j t ht => ?_⟩
  rw [Tryd.params4] at ht
  have hm : t ∈ [24, 22] := by simpa using Array.mem_of_getElem? ht
  have hall : ([24, 22].all fun u => !Tryd.prog.wantsStandIn u) = true := by kernel_rfl
  exact (show Tryd.prog.wantsStandIn t = false by simpa using List.all_eq_true.1 hall t hm)

theorem lexisPrints_card : Rows.LexisPrintsUptoCardSaid :=
  Claim7.holds_tied_plain_at .later [] _ _ _ _ lxpr_said (fun _ h => by cases h) (by kernel_rfl) (fun _ h => by cases h) lexisPrintsUpto_row_tie rfl ⟨rfl, rfl⟩ (by kernel_rfl) rfl lxpr_plain (by kernel_rfl)
#print axioms lexisPrints_card
end Go.Proofs.YtoccedbnnafjcaaDoor
