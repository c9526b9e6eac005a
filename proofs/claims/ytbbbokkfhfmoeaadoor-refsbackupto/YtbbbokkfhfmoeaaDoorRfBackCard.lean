import Derived.Test.YtbbbokkfhfmoeaaDoorChTabs
import Derived.Deep.DeepHandedRow
import Derived.Test.YtbbbokkfhfmoeaaDoorRfPlain
import Derived.Test.YtbbbokkfhfmoeaaDoorChLawTexts
import Derived.Test.YtbbbokkfhfmoeaaDoorCards
import Derived.Test.YtbbbokkfhfmoeaaDoorTie
import Derived.SevenTiedAt
import Derived.ChangeMaps5
import Derived.OpenShut
/-
  What the second form's bound gives, and its witness.
-/
namespace Go.Proofs.YtbbbokkfhfmoeaaDoor
open Go.RowKit Go.Shelf Go.Lib
open Go.ChangeShapes Go.WideShapes Go.ChangeAt

theorem bulk_one {H : Type} (d : DataW H) : 1 ≤ Rows.uptoBulk d := by
  cases d with
  | lit l => cases l <;> simp [Rows.uptoBulk]
  | nil => simp [Rows.uptoBulk]
  | ptr d => simp [Rows.uptoBulk]
  | slice elems spare => simp [Rows.uptoBulk]
  | agg parts => simp [Rows.uptoBulk]
  | iface t d => simp [Rows.uptoBulk]
  | map entries => simp [Rows.uptoBulk]
  | held h => simp [Rows.uptoBulk]
theorem bulk_length {H : Type} (l : List (DataW H)) : l.length ≤ Rows.uptoBulkAll l := by
  induction l with
  | nil => simp [Rows.uptoBulkAll]
  | cons x r ih => have := bulk_one x; simp only [Rows.uptoBulkAll, List.length_cons]; omega
theorem bulk_part {H : Type} {d : DataW H} {l : List (DataW H)} (h : d ∈ l) : Rows.uptoBulk d ≤ Rows.uptoBulkAll l := by
  induction l with
  | nil => cases h
  | cons x r ih =>
    simp only [Rows.uptoBulkAll]
    cases List.mem_cons.1 h with
    | inl e => subst e; omega
    | inr e => have := ih e; omega
theorem bulk_bound {H : Type} {l : List (DataW H)} (hk : Rows.uptoSmall H l = true) {d : DataW H} (h : d ∈ l) : Rows.uptoBulk d ≤ 1048576 :=
  Nat.le_trans (bulk_part h) (of_decide_eq_true hk)

theorem bulk_slice {H : Type} {l : List (DataW H)} (hk : Rows.uptoSmall H l = true) {d : DataW H} (h : d ∈ l) {len : Nat} (hd : len = 0 ∨ ∃ el sp, d = .slice el sp ∧ el.length = len) : len ≤ 1048576 := by
  rcases hd with h0 | ⟨el, sp, rfl, rfl⟩
  · omega
  · have h1 := bulk_bound hk h
    have h2 := bulk_length el
    simp only [Rows.uptoBulk] at h1
    omega

/-- 'there is an input that fits', at the world in which the tables lie -/
theorem upto_witness {H : Type} {enc : TypeId × Value → H} {os : Os} {f : FuncId} {fn : Func} {s : OpenSpec} {conds : List PathCond} (args : Array Value) (laid : List (String × DataW Unit)) (hl : laid = theLaid)
    (hok : Input.okWideB Tryd.checked.prog ((World.laidAll Tryd.prog os theLaid).forCall (fun _ _ => 0) ⟨#[], args, []⟩) f ⟨#[], args, []⟩ = true)
    (fuel : Nat) {x : List (DataW H) × List (DataW H) × List MemPlace} (hx : DataW.whole enc Tryd.checked.prog ((World.laidAll Tryd.prog os theLaid).forCall (fun _ _ => 0) ⟨#[], args, []⟩).memory fn.params.toList s.vars false args.toList fuel = some x)
    (hconds : conds.all (PathCond.test Tryd.checked.prog ⟨fn.params.toList, x.1, s.bare.plain.varTypes Tryd.checked.prog, x.2.1⟩) = true) (hkk : ∀ k, s.cond = some k → k H (x.1 ++ x.2.1) = true)
    (hsz : s.bare.sizedB enc Tryd.checked.prog fn false ((World.laidAll Tryd.prog os theLaid).forCall (fun _ _ => 0) ⟨#[], args, []⟩).memory args fuel = true) :
    ∃ (w : World) (tape : Tape) (i : Input), w.os = os ∧ (w.forCall tape i).Shaped Tryd.checked.prog ∧ i.vars = [] ∧ Input.okWide Tryd.checked.prog (w.forCall tape i) .any w.heap.size f i ∧
      s.preRow enc Tryd.checked.prog fn conds false laid (w.forCall tape i).memory i.args ∧ ({} : Assume).holds Tryd.checked.prog (lone (Frame.enter Tryd.checked.prog f i.args .normal) [] (w.forCall tape i)) := by
  subst hl
  refine ⟨World.laidAll Tryd.prog os theLaid, fun _ _ => 0, ⟨#[], args, []⟩, World.laidAll_os _ _ _, laid_shaped os args, (Input.okWide_of_okWideB (base := 0) hok).1, (Input.okWide_of_okWideB hok).2, OpenSpec.preRow_of_cond fuel hx hconds hkk hsz (laid_holds os args), ?_⟩
  simp only [Assume.holds]
  exact ⟨by simp, by simp, fun _ => Modest.zero, by simp, by simp⟩
end Go.Proofs.YtbbbokkfhfmoeaaDoor
/-
  WHAT A ROW's LIST OF ONE VARIABLE GIVES: the program's table of ranges lies in memory; and the second form's bound and witness at such a row.
-/
namespace Go.Proofs.YtbbbokkfhfmoeaaDoor
open Go.RowKit Go.Shelf Go.Lib
open Go.ChangeShapes Go.WideShapes Go.ChangeAt

def sLaid : List (String × DataW Unit) := [("gimlet/chars.spans", Rows.laid_gimlet_chars_spans)]
theorem spans_of_laid {W : World} (hL : laidMetH Tryd.prog sLaid W) : Spans W := by
  rw [MakeChecks.laidMetH_plain _ _ _ (by kernel_rfl)] at hL
  have h3 : VarReads Tryd.prog W "gimlet/chars.spans" (.slice (Ch.tab.map spanData) []) := spans_eq ▸ Lib.laidMet.reads hL (.head _)
  exact spans_of_reads h3
set_option maxRecDepth 100000 in
theorem sLaid_shaped (os : Os) (args : Array Value) : ((World.laidAll Tryd.prog os sLaid).forCall (fun _ _ => 0) ⟨#[], args, []⟩).Shaped Tryd.prog := World.shaped_of_ZipB (by kernel_rfl) (by kernel_rfl)
set_option maxRecDepth 100000 in
theorem sLaid_holds (os : Os) (args : Array Value) : laidMetH Tryd.prog sLaid ((World.laidAll Tryd.prog os sLaid).forCall (fun _ _ => 0) ⟨#[], args, []⟩).memory := by
  rw [MakeChecks.laidMetH_plain _ _ _ (by kernel_rfl)]
  exact laidMet_laidAll _ (by kernel_rfl) (by kernel_rfl)
/-- 'there is an input that fits', at the world in which the table lies -/
theorem upto_witnessS {H : Type} {enc : TypeId × Value → H} {os : Os} {f : FuncId} {fn : Func} {s : OpenSpec} {conds : List PathCond} (args : Array Value) (laid : List (String × DataW Unit)) (hl : laid = sLaid)
    (hok : Input.okWideB Tryd.checked.prog ((World.laidAll Tryd.prog os sLaid).forCall (fun _ _ => 0) ⟨#[], args, []⟩) f ⟨#[], args, []⟩ = true)
    (fuel : Nat) {x : List (DataW H) × List (DataW H) × List MemPlace} (hx : DataW.whole enc Tryd.checked.prog ((World.laidAll Tryd.prog os sLaid).forCall (fun _ _ => 0) ⟨#[], args, []⟩).memory fn.params.toList s.vars false args.toList fuel = some x)
    (hconds : conds.all (PathCond.test Tryd.checked.prog ⟨fn.params.toList, x.1, s.bare.plain.varTypes Tryd.checked.prog, x.2.1⟩) = true) (hkk : ∀ k, s.cond = some k → k H (x.1 ++ x.2.1) = true)
    (hsz : s.bare.sizedB enc Tryd.checked.prog fn false ((World.laidAll Tryd.prog os sLaid).forCall (fun _ _ => 0) ⟨#[], args, []⟩).memory args fuel = true) :
    ∃ (w : World) (tape : Tape) (i : Input), w.os = os ∧ (w.forCall tape i).Shaped Tryd.checked.prog ∧ i.vars = [] ∧ Input.okWide Tryd.checked.prog (w.forCall tape i) .any w.heap.size f i ∧
      s.preRow enc Tryd.checked.prog fn conds false laid (w.forCall tape i).memory i.args ∧ ({} : Assume).holds Tryd.checked.prog (lone (Frame.enter Tryd.checked.prog f i.args .normal) [] (w.forCall tape i)) := by
  subst hl
  refine ⟨World.laidAll Tryd.prog os sLaid, fun _ _ => 0, ⟨#[], args, []⟩, World.laidAll_os _ _ _, sLaid_shaped os args, (Input.okWide_of_okWideB (base := 0) hok).1, (Input.okWide_of_okWideB hok).2, OpenSpec.preRow_of_cond fuel hx hconds hkk hsz (sLaid_holds os args), ?_⟩
  simp only [Assume.holds]
  exact ⟨by simp, by simp, fun _ => Modest.zero, by simp, by simp⟩
end Go.Proofs.YtbbbokkfhfmoeaaDoor
/-
  Plain mathematics: a text that is written is a text where it was one, holds no <, and is read as itself.
-/
namespace Go.Proofs.YtbbbokkfhfmoeaaDoor.Rf
open Go.RowKit Go.Lib

/-- is it characters all through, and allowed ones: by the list -/
def tw : Nat → List UInt8 → Bool
  | 0, _ => true
  | _ + 1, [] => true
  | k + 1, x :: r => Rn.whole (lfn (x :: r)) (x :: r).length && Ch.isR (Ch.rg 0) (Rn.fv (lfn (x :: r))) && tw k ((x :: r).drop (Rn.fs (lfn (x :: r)) (x :: r).length))
theorem off_lfn (l : List UInt8) (p : Nat) : Rn.off (lfn l) p = lfn (l.drop p) := by
  funext j
  rw [lfn_drop]
  rfl
theorem tw_nil (k : Nat) : tw k [] = true := by cases k <;> rfl
theorem tw_from (l : List UInt8) : ∀ (fuel p : Nat), l.length ≤ p + fuel → (Ch.allFrom (lfn l) l.length 0 fuel p 0 && Ch.V (lfn l) l.length p) = tw fuel (l.drop p)
  | 0, p, h => by
    rw [Ch.av_end _ _ _ _ _ _ (by omega)]
    rfl
  | fuel + 1, p, h => by
    by_cases hp : p < l.length
    · rw [Ch.av_step _ _ _ _ _ _ (lfn_lt l) hp]
      obtain ⟨x, r, e⟩ : ∃ x r, l.drop p = x :: r := ⟨_, _, List.drop_eq_getElem_cons hp⟩
      have hL : l.length - p = (x :: r).length := by rw [← e, List.length_drop]
      rw [off_lfn, e, hL]
      show _ = (_ && tw fuel ((x :: r).drop _))
      by_cases hw : Rn.whole (lfn (x :: r)) (x :: r).length = true
      · have hpos : 0 < Rn.fs (lfn (x :: r)) (x :: r).length := by
          unfold Rn.whole at hw
          exact (of_decide_eq_true hw).1
        rw [tw_from l fuel (p + Rn.fs (lfn (x :: r)) (x :: r).length) (by omega), ← List.drop_drop, e]
      · have hw' : Rn.whole (lfn (x :: r)) (x :: r).length = false := by simpa using hw
        rw [hw']
        simp
    · rw [Ch.av_end _ _ _ _ _ _ hp, List.drop_eq_nil_of_le (by omega), tw_nil]
theorem tx5_tw (l : List UInt8) : tx5 l = tw l.length l := by
  unfold tx5
  rw [← Ch.V_zero, tw_from l l.length 0 (by omega)]
  rfl

/-- what is asked of the forms -/
def okF (form : Nat → List UInt8) (x : UInt8) : Bool :=
  (decide (128 ≤ x.toNat) || (one form x).all fun y => decide (y.toNat < 128)) &&
  (decide (x.toNat < 128) || (one form x == [x])) &&
  (decide (128 ≤ x.toNat) || (((one form x).all fun y => Ch.isR Ch.rg0 y.toNat) == Ch.isR Ch.rg0 x.toNat)) &&
  (!(one form x).contains 60) && (!(one form x).isEmpty) &&
  ((one form x == [x] && x != 38) || ((one form x).head? == some 38 && rd (lfn (one form x)) (one form x).length == (x.toNat, (one form x).length, 0) && Lib.encodeRune (x.toNat : Int) == [x]))
theorem okT0 : ∀ k : Fin 256, okF inT (UInt8.ofNat k.val) = true := by decide +kernel
theorem okV0 : ∀ k : Fin 256, okF inV (UInt8.ofNat k.val) = true := by decide +kernel
theorem okT (x : UInt8) : okF inT x = true := by
  have := okT0 ⟨x.toNat, x.toNat_lt⟩
  simpa using this
theorem okV (x : UInt8) : okF inV x = true := by
  have := okV0 ⟨x.toNat, x.toNat_lt⟩
  simpa using this
structure OkF (form : Nat → List UInt8) : Prop where
  small : ∀ x : UInt8, x.toNat < 128 → ∀ y ∈ one form x, y.toNat < 128
  big : ∀ x : UInt8, 128 ≤ x.toNat → one form x = [x]
  may : ∀ x : UInt8, x.toNat < 128 → ((one form x).all fun y => Ch.isR Ch.rg0 y.toNat) = Ch.isR Ch.rg0 x.toNat
  no60 : ∀ x : UInt8, 60 ∉ one form x
  some1 : ∀ x : UInt8, one form x ≠ []
  back : ∀ x : UInt8, (one form x = [x] ∧ x ≠ 38) ∨ ((one form x).head? = some 38 ∧ rd (lfn (one form x)) (one form x).length = (x.toNat, (one form x).length, 0) ∧ Lib.encodeRune (x.toNat : Int) = [x])
theorem okF_of {form : Nat → List UInt8} (h : ∀ x, okF form x = true) : OkF form := by
  constructor
  · intro x hx y hy
    have := h x
    simp only [okF, Bool.and_eq_true, Bool.or_eq_true, decide_eq_true_eq, List.all_eq_true] at this
    obtain ⟨⟨⟨⟨⟨h1, _⟩, _⟩, _⟩, _⟩, _⟩ := this
    rcases h1 with h1 | h1
    · omega
    · exact h1 y hy
  · intro x hx
    have := h x
    simp only [okF, Bool.and_eq_true, Bool.or_eq_true, decide_eq_true_eq, beq_iff_eq] at this
    obtain ⟨⟨⟨⟨⟨_, h1⟩, _⟩, _⟩, _⟩, _⟩ := this
    rcases h1 with h1 | h1
    · omega
    · exact h1
  · intro x hx
    have := h x
    simp only [okF, Bool.and_eq_true, Bool.or_eq_true, decide_eq_true_eq, beq_iff_eq] at this
    obtain ⟨⟨⟨⟨⟨_, _⟩, h1⟩, _⟩, _⟩, _⟩ := this
    rcases h1 with h1 | h1
    · omega
    · exact h1
  · intro x
    have := h x
    unfold okF at this
    simp only [Bool.and_eq_true] at this
    obtain ⟨⟨⟨⟨⟨_, _⟩, _⟩, h1⟩, _⟩, _⟩ := this
    simpa using h1
  · intro x
    have := h x
    unfold okF at this
    simp only [Bool.and_eq_true] at this
    obtain ⟨⟨⟨⟨⟨_, _⟩, _⟩, _⟩, h1⟩, _⟩ := this
    simpa using h1
  · intro x
    have := h x
    unfold okF at this
    simp only [Bool.and_eq_true, Bool.or_eq_true, beq_iff_eq, bne_iff_ne] at this
    obtain ⟨_, h1⟩ := this
    rcases h1 with h1 | h1
    · exact .inl h1
    · exact .inr ⟨h1.1.1, h1.1.2, h1.2⟩

theorem esc_cons (form : Nat → List UInt8) (x : UInt8) (r : List UInt8) : esc form (x :: r) = one form x ++ esc form r := by simp [esc]
theorem esc_no60 {form : Nat → List UInt8} (h : OkF form) (l : List UInt8) : 60 ∉ esc form l := by
  intro m
  obtain ⟨x, _, hx⟩ := List.mem_flatMap.1 m
  exact h.no60 x hx
theorem lfn_app {w t : List UInt8} {j : Nat} (h : j < w.length) : lfn w j = lfn (w ++ t) j := by
  unfold lfn
  rw [List.getElem?_append_left h]
theorem esc_back {form : Nat → List UInt8} (h : OkF form) : ∀ (l acc : List UInt8) (k : Nat), (esc form l).length < k → pa k (esc form l) acc = some (acc ++ l)
  | [], acc, k, hk => by
    obtain ⟨m, rfl⟩ : ∃ m, k = m + 1 := ⟨k - 1, by omega⟩
    show pa (m + 1) [] acc = _
    unfold pa
    simp
  | x :: r, acc, k, hk => by
    obtain ⟨m, rfl⟩ : ∃ m, k = m + 1 := ⟨k - 1, by omega⟩
    rw [esc_cons] at hk ⊢
    have hap : acc ++ (x :: r) = acc ++ [x] ++ r := by simp
    rw [hap]
    rcases h.back x with ⟨h1, h2⟩ | ⟨h1, h2, h3⟩
    · rw [h1] at hk ⊢
      rw [List.length_append, List.length_singleton] at hk
      show pa (m + 1) (x :: esc form r) acc = _
      unfold pa
      rw [if_neg h2]
      exact esc_back h r _ m (by omega)
    · generalize hw : one form x = w at *
      cases w with
      | nil => cases h1
      | cons a w =>
        obtain rfl : a = 38 := by simpa using h1
        have hst := rd_stay (f := lfn (38 :: w)) (g := lfn (38 :: w ++ esc form r)) (n := (38 :: w).length) (n' := (38 :: w ++ esc form r).length) (fun j hj => lfn_app hj) (by simp) (by rw [h2]; simp)
        rw [h2] at hst
        rw [List.length_append, List.length_cons] at hk
        show pa (m + 1) (38 :: (w ++ esc form r)) acc = _
        unfold pa
        rw [if_pos rfl]
        rw [show (38 :: (w ++ esc form r)) = 38 :: w ++ esc form r from rfl, hst, if_pos rfl]
        simp only
        rw [List.drop_left, h3]
        exact esc_back h r _ m (by omega)

theorem tw_small (k : Nat) (x : UInt8) (r : List UInt8) (h : x.toNat < 128) : tw (k + 1) (x :: r) = (Ch.isR Ch.rg0 x.toNat && tw k r) := by
  have e0 : lfn (x :: r) 0 = x.toNat := rfl
  have h1 : Rn.size x.toNat = 1 := by unfold Rn.size; rw [if_pos h]
  have hs : Rn.fs (lfn (x :: r)) (x :: r).length = 1 := by
    unfold Rn.fs
    rw [if_neg (by simp), e0, h1]
  have hw : Rn.whole (lfn (x :: r)) (x :: r).length = true := by
    unfold Rn.whole Rn.fk Rn.len
    rw [hs, e0, h1]
    simp
  have hv : Rn.fv (lfn (x :: r)) = x.toNat := by
    unfold Rn.fv Rn.val
    rw [e0, if_pos h1]
  show (_ && _ && tw k _) = _
  rw [hw, hs, hv, Ch.rg_0, Bool.true_and]
  rfl
theorem tw_smalls : ∀ (w : List UInt8) (k : Nat) (t : List UInt8), (∀ y ∈ w, y.toNat < 128) → tw (w.length + k) (w ++ t) = ((w.all fun y => Ch.isR Ch.rg0 y.toNat) && tw k t)
  | [], k, t, _ => by simp
  | y :: w, k, t, h => by
    rw [List.length_cons, show w.length + 1 + k = (w.length + k) + 1 by omega, List.cons_append, tw_small _ _ _ (h y (by simp)), tw_smalls w k t (fun z hz => h z (by simp [hz])), List.all_cons, Bool.and_assoc]

/-- two texts that go on alike while bytes of longer characters come -/
theorem ag {form : Nat → List UInt8} (h : OkF form) : ∀ (l : List UInt8) (j : Nat), (∀ i, i < j → i < l.length ∧ 128 ≤ lfn l i) → (l.length = j ∧ (esc form l).length = j) ∨ (j < l.length ∧ j < (esc form l).length ∧ (lfn l j = lfn (esc form l) j ∧ 128 ≤ lfn l j ∨ lfn l j < 128 ∧ lfn (esc form l) j < 128))
  | [], 0, _ => .inl ⟨rfl, rfl⟩
  | [], j + 1, hi => by have := (hi 0 (by omega)).1; simp at this
  | x :: r, 0, _ => by
    have e0 : lfn (x :: r) 0 = x.toNat := rfl
    right
    rw [esc_cons, e0]
    by_cases hx : 128 ≤ x.toNat
    · rw [h.big x hx]
      refine ⟨by simp, by simp, .inl ⟨rfl, hx⟩⟩
    · have h1 := h.some1 x
      have h2 := h.small x (by omega)
      generalize one form x = w at *
      cases w with
      | nil => exact absurd rfl h1
      | cons a w => exact ⟨by simp, by simp, .inr ⟨by omega, h2 a (by simp)⟩⟩
  | x :: r, j + 1, hi => by
    have hx : 128 ≤ x.toNat := (hi 0 (by omega)).2
    have ih := ag h r j (fun i hj => by
      have := hi (i + 1) (by omega)
      rw [List.length_cons] at this
      exact ⟨by omega, this.2⟩)
    rw [esc_cons, h.big x hx]
    have e1 : lfn (x :: r) (j + 1) = lfn r j := rfl
    have e2 : lfn ([x] ++ esc form r) (j + 1) = lfn (esc form r) j := rfl
    rw [e1, e2, List.length_append, List.length_singleton, List.length_cons]
    rcases ih with ⟨a, b⟩ | ⟨a, b, c⟩
    · exact .inl ⟨by omega, by omega⟩
    · exact .inr ⟨by omega, by omega, c⟩
theorem ag_drop {form : Nat → List UInt8} (h : OkF form) : ∀ (l : List UInt8) (j : Nat), (∀ i, i < j → i < l.length ∧ 128 ≤ lfn l i) → (esc form l).drop j = esc form (l.drop j) ∧ (esc form l).length = j + (esc form (l.drop j)).length
  | l, 0, _ => by simp
  | [], j + 1, hi => by have := (hi 0 (by omega)).1; simp at this
  | x :: r, j + 1, hi => by
    have hx : 128 ≤ x.toNat := (hi 0 (by omega)).2
    have ih := ag_drop h r j (fun i hj => by
      have := hi (i + 1) (by omega)
      rw [List.length_cons] at this
      exact ⟨by omega, this.2⟩)
    rw [esc_cons, h.big x hx]
    show (x :: esc form r).drop (j + 1) = _ ∧ _
    rw [List.drop_succ_cons, List.drop_succ_cons, List.length_append, List.length_singleton]
    exact ⟨ih.1, by omega⟩
theorem len_ag {n m b0 b1 b2 b3 c1 c2 c3 : Nat} (hn : 0 < n) (hm : 0 < m) (hs : Rn.size b0 ≠ 1) (h4 : Rn.size b0 ≤ 4) (hlo : 128 ≤ Rn.lo b0)
    (a1 : (n = 1 ∧ m = 1) ∨ (1 < n ∧ 1 < m ∧ (b1 = c1 ∧ 128 ≤ b1 ∨ b1 < 128 ∧ c1 < 128)))
    (a2 : 1 < n → 128 ≤ b1 → (n = 2 ∧ m = 2) ∨ (2 < n ∧ 2 < m ∧ (b2 = c2 ∧ 128 ≤ b2 ∨ b2 < 128 ∧ c2 < 128)))
    (a3 : 2 < n → 128 ≤ b1 → 128 ≤ b2 → (n = 3 ∧ m = 3) ∨ (3 < n ∧ 3 < m ∧ (b3 = c3 ∧ 128 ≤ b3 ∨ b3 < 128 ∧ c3 < 128))) :
    Rn.len n b0 b1 b2 b3 = Rn.len m b0 c1 c2 c3 ∧ (0 < Rn.size b0 → Rn.len n b0 b1 b2 b3 = Rn.size b0 → Rn.val b0 b1 b2 b3 = Rn.val b0 c1 c2 c3 ∧ Rn.size b0 ≤ n ∧ 128 ≤ b1 ∧ (2 < Rn.size b0 → 128 ≤ b2) ∧ (3 < Rn.size b0 → 128 ≤ b3)) := by
  unfold Rn.len Rn.val
  generalize Rn.size b0 = s at *
  generalize Rn.lo b0 = L at *
  generalize Rn.hi b0 = H at *
  rcases a1 with ⟨rfl, rfl⟩ | ⟨n1, m1, ⟨rfl, k1⟩ | ⟨k1, k1'⟩⟩
  · constructor
    · repeat' split
      all_goals omega
    · intro p
      repeat' split
      all_goals omega
  · rcases a2 n1 k1 with ⟨rfl, rfl⟩ | ⟨n2, m2, ⟨rfl, k2⟩ | ⟨k2, k2'⟩⟩
    · constructor
      · repeat' split
        all_goals omega
      · intro p
        repeat' split
        all_goals omega
    · rcases a3 n2 k1 k2 with ⟨rfl, rfl⟩ | ⟨n3, m3, ⟨rfl, k3⟩ | ⟨k3, k3'⟩⟩
      · constructor
        · repeat' split
          all_goals omega
        · intro p
          repeat' split
          all_goals omega
      · constructor
        · repeat' split
          all_goals omega
        · intro p
          repeat' split
          all_goals omega
      · constructor
        · repeat' split
          all_goals omega
        · intro p
          repeat' split
          all_goals omega
    · constructor
      · repeat' split
        all_goals omega
      · intro p
        repeat' split
        all_goals omega
  · constructor
    · repeat' split
      all_goals omega
    · intro p
      repeat' split
      all_goals omega

theorem esc_tw {form : Nat → List UInt8} (h : OkF form) : ∀ (k m : Nat) (l : List UInt8), l.length ≤ k → (esc form l).length ≤ m → tw m (esc form l) = tw k l
  | k, m, [], _, _ => by rw [show esc form [] = [] from rfl, tw_nil, tw_nil]
  | 0, _, x :: r, hk, _ => by simp at hk
  | k + 1, m, x :: r, hk, hm => by
    rw [List.length_cons] at hk
    by_cases hx : x.toNat < 128
    · rw [tw_small k x r hx]
      rw [esc_cons, List.length_append] at hm
      have hq : m = (one form x).length + (m - (one form x).length) := by omega
      rw [esc_cons, hq, tw_smalls _ _ _ (h.small x hx), h.may x hx, esc_tw h k _ r (by omega) (by omega)]
    · have hx' : 128 ≤ x.toNat := by omega
      have e0 : lfn (x :: r) 0 = x.toNat := rfl
      have eE : esc form (x :: r) = x :: esc form r := by rw [esc_cons, h.big x hx']; rfl
      have q0 : lfn (esc form (x :: r)) 0 = x.toNat := by rw [eE]; rfl
      have A1 := ag h (x :: r) 1 (fun i hi => by
        obtain rfl : i = 0 := by omega
        exact ⟨by simp, by rw [e0]; exact hx'⟩)
      have A2 : 1 < (x :: r).length → 128 ≤ lfn (x :: r) 1 → _ := fun u1 u2 => ag h (x :: r) 2 (fun i hi => by
        rcases (show i = 0 ∨ i = 1 by omega) with rfl | rfl
        · exact ⟨by simp, by rw [e0]; exact hx'⟩
        · exact ⟨u1, u2⟩)
      have A3 : 2 < (x :: r).length → 128 ≤ lfn (x :: r) 1 → 128 ≤ lfn (x :: r) 2 → _ := fun u1 u2 u3 => ag h (x :: r) 3 (fun i hi => by
        rcases (show i = 0 ∨ i = 1 ∨ i = 2 by omega) with rfl | rfl | rfl
        · exact ⟨by simp, by rw [e0]; exact hx'⟩
        · exact ⟨by omega, u2⟩
        · exact ⟨u1, u3⟩)
      have hs1 : Rn.size x.toNat ≠ 1 := by
        unfold Rn.size
        rw [if_neg hx]
        repeat' split
        all_goals omega
      have hlo : 128 ≤ Rn.lo x.toNat := by
        unfold Rn.lo
        repeat' split
        all_goals omega
      have L := len_ag (b0 := x.toNat) (n := (x :: r).length) (m := (esc form (x :: r)).length) (by simp) (by rw [eE]; simp) hs1 (Rn.size_le _) hlo A1 A2 A3
      obtain ⟨L1, L2⟩ := L
      have k1 : Rn.fs (lfn (x :: r)) (x :: r).length = Rn.size x.toNat := by
        unfold Rn.fs
        rw [if_neg (by simp), e0]
      have k2 : Rn.fs (lfn (esc form (x :: r))) (esc form (x :: r)).length = Rn.size x.toNat := by
        unfold Rn.fs
        rw [if_neg (by rw [eE]; simp), q0]
      have w1 : Rn.whole (lfn (x :: r)) (x :: r).length = decide (0 < Rn.size x.toNat ∧ Rn.len (x :: r).length x.toNat (lfn (x :: r) 1) (lfn (x :: r) 2) (lfn (x :: r) 3) = Rn.size x.toNat) := by
        unfold Rn.whole Rn.fk
        rw [k1, e0]
      have w2 : Rn.whole (lfn (esc form (x :: r))) (esc form (x :: r)).length = decide (0 < Rn.size x.toNat ∧ Rn.len (x :: r).length x.toNat (lfn (x :: r) 1) (lfn (x :: r) 2) (lfn (x :: r) 3) = Rn.size x.toNat) := by
        unfold Rn.whole Rn.fk
        rw [k2, q0, L1]
      obtain ⟨m', rfl⟩ : ∃ m', m = m' + 1 := ⟨m - 1, by rw [eE, List.length_cons] at hm; omega⟩
      have t1 : tw (k + 1) (x :: r) = (Rn.whole (lfn (x :: r)) (x :: r).length && Ch.isR (Ch.rg 0) (Rn.fv (lfn (x :: r))) && tw k ((x :: r).drop (Rn.fs (lfn (x :: r)) (x :: r).length))) := rfl
      have t2 : tw (m' + 1) (esc form (x :: r)) = (Rn.whole (lfn (esc form (x :: r))) (esc form (x :: r)).length && Ch.isR (Ch.rg 0) (Rn.fv (lfn (esc form (x :: r)))) && tw m' ((esc form (x :: r)).drop (Rn.fs (lfn (esc form (x :: r))) (esc form (x :: r)).length))) := by
        rw [eE]
        rfl
      rw [t1, t2, w1, w2, k1, k2]
      by_cases hW : 0 < Rn.size x.toNat ∧ Rn.len (x :: r).length x.toNat (lfn (x :: r) 1) (lfn (x :: r) 2) (lfn (x :: r) 3) = Rn.size x.toNat
      · obtain ⟨v1, v2, v3, v4, v5⟩ := L2 hW.1 hW.2
        have hs4 := Rn.size_le x.toNat
        have D := ag_drop h (x :: r) (Rn.size x.toNat) (fun i hi => by
          rcases (show i = 0 ∨ i = 1 ∨ i = 2 ∨ i = 3 by omega) with rfl | rfl | rfl | rfl
          · exact ⟨by simp, by rw [e0]; exact hx'⟩
          · exact ⟨by omega, v3⟩
          · exact ⟨by omega, v4 (by omega)⟩
          · exact ⟨by omega, v5 (by omega)⟩)
        have hv : Rn.fv (lfn (esc form (x :: r))) = Rn.fv (lfn (x :: r)) := by
          unfold Rn.fv
          rw [e0, q0, v1]
        rw [hv, D.1, esc_tw h k m' ((x :: r).drop (Rn.size x.toNat)) (by rw [List.length_drop, List.length_cons]; omega) (by omega)]
      · rw [decide_eq_false hW]
        simp
  termination_by k => k

theorem tx5_esc {form : Nat → List UInt8} (h : OkF form) (l : List UInt8) : tx5 (esc form l) = tx5 l := by
  rw [tx5_tw, tx5_tw, esc_tw h l.length _ l (Nat.le_refl _) (Nat.le_refl _)]
/-- what is written and read again is what it was; what held others is refused -/
theorem pln_esc {form : Nat → List UInt8} (h : OkF form) (l : List UInt8) : pln (esc form l) = if tx5 l = true then some l else none := by
  unfold pln
  rw [tx5_esc h]
  by_cases ht : tx5 l = true
  · rw [if_pos ⟨ht, esc_no60 h l⟩, if_pos ht, esc_back h l [] _ (by omega)]
    rfl
  · rw [if_neg (fun e => ht e.1), if_neg ht]
theorem okInT : OkF inT := okF_of okT
theorem okInV : OkF inV := okF_of okV
end Go.Proofs.YtbbbokkfhfmoeaaDoor.Rf
/-
  THE WALK over gimletlaw05.RefsBack.
-/
namespace Go.Proofs.YtbbbokkfhfmoeaaDoor
open Go.RowKit Go.Lib

set_option maxHeartbeats 1000000 in
theorem lawBack_any (l : List UInt8) (w : World) (hS : Spans w) (hT : Lib.Utf8Tabs 1 2 w) (hl : 6 * l.length ≤ 140737488351232) :
    Calls Tryd.prog 6 #[.string ⟨l.toArray⟩] w fun e w' => e = .returned (.bool true) ∧ Below w.heap.size w w' := by
  have c1 := rfText_any l w (by omega)
  have c3 := fun W => rfValue_any l W (by omega)
  have hlT := Rf.esc_le Rf.inT Rf.inT_le l
  have hlV := Rf.esc_le Rf.inV Rf.inV_le l
  have c2 := fun W (hb : Below w.heap.size w W) => plain_any (Rf.esc Rf.inT l) W (hS.below hb (Nat.le_refl _)) (tabs_below hT hb (Nat.le_refl _)) (by omega)
  have c4 := fun W (hb : Below w.heap.size w W) => plain_any (Rf.esc Rf.inV l) W (hS.below hb (Nat.le_refl _)) (tabs_below hT hb (Nat.le_refl _)) (by omega)
  have c5 := fun W (hb : Below w.heap.size w W) => rfFixed_any W (hS.below hb (Nat.le_refl _))
  have c6 := fun W (hb : Below w.heap.size w W) => texts_any (Rf.lfn l) l.length W (Rf.lfn_lt l) (by omega) (hS.below hb (Nat.le_refl _)) (tabs_below hT hb (Nat.le_refl _))
  rw [arr_lfn] at c6
  rw [Rf.pln_esc Rf.okInT] at c2
  rw [Rf.pln_esc Rf.okInV] at c4
  have ht : (Ch.allFrom (Rf.lfn l) l.length 0 l.length 0 0 && Ch.valid (Rf.lfn l) l.length) = Rf.tx5 l := rfl
  rw [ht] at c6
  clear hS hT ht hlT hlV
  generalize Rf.esc Rf.inT l = T at *
  generalize Rf.esc Rf.inV l = V at *
  cases hx : Rf.tx5 l
  · rw [hx] at c2 c4 c6
    simp only [Rf.plV, Bool.false_eq_true, if_false] at c2 c4
    clear hx
    go_enter Tryd.func6, Tryd.ntmps6
    go_wp2_with fail
    refine c1.mono ?_
    rintro e w1 ⟨rfl, hB1⟩
    have c2' := c2 w1 hB1
    clear c1 c2
    go_wp2_with fail
    refine c2'.mono ?_
    rintro e w2 ⟨rfl, hb2⟩
    have hB2 := hB1.trans (hb2.mono hB1.size)
    have c3' := c3 w2
    clear c2' c3 hB1 hb2
    go_wp2_with fail
    refine c3'.mono ?_
    rintro e w3 ⟨rfl, hb3⟩
    have hB3 := hB2.trans (hb3.mono hB2.size)
    have c4' := c4 w3 hB3
    clear c3' c4 hB2 hb3
    go_wp2_with fail
    refine c4'.mono ?_
    rintro e w4 ⟨rfl, hb4⟩
    have hB4 := hB3.trans (hb4.mono hB3.size)
    have c5' := c5 w4 hB4
    clear c4' c5 hB3 hb4
    go_wp2_with fail
    refine c5'.mono ?_
    rintro e w5 ⟨rfl, hb5⟩
    have hB5 := hB4.trans (hb5.mono hB4.size)
    have c6' := c6 w5 hB5
    clear c5' c6 hB4 hb5
    go_wp2_with fail
    refine c6'.mono ?_
    rintro e w6 ⟨rfl, hb6⟩
    clear c6'
    go_wp2
    go_ret
    exact ⟨rfl, hB5.trans (hb6.mono hB5.size)⟩
  · rw [hx] at c2 c4 c6
    simp only [Rf.plV, if_true] at c2 c4
    clear hx
    go_enter Tryd.func6, Tryd.ntmps6
    go_wp2_with fail
    refine c1.mono ?_
    rintro e w1 ⟨rfl, hB1⟩
    have c2' := c2 w1 hB1
    clear c1 c2
    go_wp2_with fail
    refine c2'.mono ?_
    rintro e w2 ⟨rfl, hb2⟩
    have hB2 := hB1.trans (hb2.mono hB1.size)
    have c3' := c3 w2
    clear c2' c3 hB1 hb2
    go_wp2_with fail
    refine c3'.mono ?_
    rintro e w3 ⟨rfl, hb3⟩
    have hB3 := hB2.trans (hb3.mono hB2.size)
    have c4' := c4 w3 hB3
    clear c3' c4 hB2 hb3
    go_wp2_with fail
    refine c4'.mono ?_
    rintro e w4 ⟨rfl, hb4⟩
    have hB4 := hB3.trans (hb4.mono hB3.size)
    have c5' := c5 w4 hB4
    clear c4' c5 hB3 hb4
    go_wp2_with fail
    refine c5'.mono ?_
    rintro e w5 ⟨rfl, hb5⟩
    have hB5 := hB4.trans (hb5.mono hB4.size)
    have c6' := c6 w5 hB5
    clear c5' c6 hB4 hb5
    go_wp2_with fail
    refine c6'.mono ?_
    rintro e w6 ⟨rfl, hb6⟩
    clear c6'
    go_wp2
    go_ret
    exact ⟨rfl, hB5.trans (hb6.mono hB5.size)⟩
end Go.Proofs.YtbbbokkfhfmoeaaDoor
/-
  PROVED: 'gimletlaw05.RefsBack' returns true at every input, where what it reads is of bulk at most 1048576 (the card RefsBackUptoCardSaid). The conditions: the program's table of ranges and utf8's tables, where it reads them, start as the program's text lays them (the card ties them).
-/
namespace Go.Proofs.YtbbbokkfhfmoeaaDoor
open Go.RowKit Go.Shelf Go.Lib
open Go.ChangeShapes Go.WideShapes Go.ChangeAt

theorem rfback_reads (os : Os) {H : Type} (enc : TypeId × Value → H) : ∃ places, DataW.whole enc Tryd.checked.prog ((World.laidAll Tryd.prog os theLaid).forCall (fun _ _ => 0) ⟨#[], #[.string ⟨#[]⟩], []⟩).memory Tryd.f6.params.toList (Rows.OpenSpec.upto Rows.refsBackSpec).vars false #[Value.string ⟨#[]⟩].toList 8 = some ([.lit (.string [])], [], places) :=
  ⟨[], by kernel_rfl⟩

set_option maxRecDepth 100000 in
theorem rfback_lifted (os : Os) (started : os.Started) (H : Type) (enc : TypeId × Value → H) (F : Stop.Interp) :
    ReturnsInHanded {} Tryd.checked os 6 .any ((Rows.OpenSpec.upto Rows.refsBackSpec).preRow enc Tryd.prog Tryd.f6 Rows.refsBackUptoRow.domain false Rows.refsBackUptoRow.laid) (((Rows.OpenSpec.upto Rows.refsBackSpec).at F).post enc Tryd.prog Tryd.f6 false true false false) := by
  obtain ⟨places, hx⟩ := rfback_reads os enc
  refine returnsInHanded_of_row (C := Tryd.checked) (s := Rows.OpenSpec.upto Rows.refsBackSpec) own started (by kernel_rfl) Tryd.func6
    (upto_witness (fn := Tryd.f6) #[.string ⟨#[]⟩] _ rfl (by kernel_rfl) 8 hx (by kernel_rfl) (fun k hk => by cases hk; kernel_rfl) (by kernel_rfl)) ?_
  intro W base args ds gs before hval0 hW _ hcond _ hL _ _
  have hk := hcond _ rfl
  have hval : ∀ (j : Nat) t v, Tryd.f6.params[j]? = some t → args[j]? = some v → Value.okWide Tryd.prog W .any base t v := hval0
  have hW' := hW
  obtain ⟨p, q, hA0, hV, rfl, _, _⟩ := hW
  have hA : DataW.TrodAll enc Tryd.prog W 0 (fun _ => true) true Tryd.f6.params.toList args.toList ds p := hA0
  rw [Tryd.params6] at hA hval
  obtain ⟨v0, vs0, d0, ds0, p0, q0, hargs, rfl, rfl, h0, r0⟩ := trodAll_cons hA
  obtain ⟨rfl, rfl, rfl⟩ := trodAll_nil r0
  obtain rfl : args = #[v0] := by cases args; simp_all
  obtain ⟨rfl, rfl⟩ := trodVars_none hV
  obtain ⟨s0, rfl, rfl, rfl, ws0⟩ := ChangeMaps.open_string Tryd.underlying9 (hval 0 9 v0 rfl rfl) h0
  clear hA0 hval0
  have b0 := bulk_bound hk (d := .lit (.string s0.data.toList)) (by simp)
  simp only [Rows.uptoBulk] at b0
  obtain ⟨hT, hS⟩ := tabs_of_laid hL
  have hc := lawBack_any s0.data.toList W hS hT (by omega)
  refine hc.mono fun e W' ⟨he, bel⟩ => ?_
  subst he
  exact ⟨_, rfl, _, _, _, [], _, [], hW', trodAll_mk1 (shut_bool Tryd.underlying4 _), (trodAll_cons_mk (ChangeMaps.shut_string Tryd.underlying9 ws0) trodAll_mk0), rfl, bel.frame _, fun h => by cases h⟩

theorem rfback_said : Rows.RefsBackUptoSaid :=
  OpenClaim.holds_of_cond 6 Tryd.f6 rfl rfl rfl rfl rfl rfl rfl ⟨rfl, rfl, rfl, rfl, rfl⟩ rfl rfl rfl rfl rfl (by kernel_rfl) Tryd.func6 (by kernel_rfl)
    (of_decide_eq_true (by kernel_rfl)) (by unfold Func.isWrapper; rw [if_neg (by decide +kernel)]; exact ⟨rfl, rfl⟩)
    (fun os started H enc _ F => by rw [OpenClaim.pre_eq_preRow]; exact rfback_lifted os started H enc F)

theorem rfback_plain (f : FuncId) (fn : Func) (hf : Tryd.pinned.checked.prog.funcNamed "gimlet/gimletlaw05.RefsBack" = some f) (hfn : Tryd.pinned.checked.prog.funcs[f]? = some fn) :
    false = Tryd.pinned.checked.prog.looks [] ∧ ∀ (j : Nat) t, fn.params[j]? = some t → Tryd.pinned.checked.prog.wantsStandIn t = false := by
  obtain rfl : f = 6 := Option.some.inj ((show Tryd.prog.funcNamed "gimlet/gimletlaw05.RefsBack" = some 6 by kernel_rfl).symm.trans hf) |>.symm
  obtain rfl : fn = Tryd.f6 := (Option.some.inj (Tryd.func6.symm.trans hfn)).symm
  refine ⟨by kernel_rfl, fun j t ht => ?_⟩
  rw [Tryd.params6] at ht
  have hm : t ∈ [9] := by simpa using Array.mem_of_getElem? ht
  have hall : ([9].all fun u => !Tryd.prog.wantsStandIn u) = true := by kernel_rfl
  exact (show Tryd.prog.wantsStandIn t = false by simpa using List.all_eq_true.1 hall t hm)

theorem refsBack_card : Rows.RefsBackUptoCardSaid :=
  Claim7.holds_tied_plain_at .later [] _ _ _ _ rfback_said (fun _ h => by cases h) (by kernel_rfl) (fun _ h => by cases h) refsBackUpto_row_tie rfl ⟨rfl, rfl⟩ (by kernel_rfl) rfl rfback_plain (by kernel_rfl)
#print axioms refsBack_card
end Go.Proofs.YtbbbokkfhfmoeaaDoor
