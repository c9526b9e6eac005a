/-
  WALKS over (*strings.Builder).Len and WriteByte, words.Squeeze, the document's Blank and Squeeze.
-/
import Derived.Test.YtfbjkebinbemdaaDoorWdSub
import Derived.Test.YtfbjkebinbemdaaDoorWdRefAsk
import Derived.Test.YtfbjkebinbemdaaDoorChTab
namespace Go.Proofs.YtfbjkebinbemdaaDoor
open Go.RowKit

set_option maxHeartbeats 1000000 in
theorem builderLen_k (B b : Nat) (bs : List Value) (w : World) (h : Lib.IsBuilderF 43 5 B b bs w) :
    Calls Tryd.prog 39 #[.pointer (some ⟨b, 0, none⟩)] w fun e w' => e = .returned (.int .i64 bs.length) ∧ w' = w := by
  obtain ⟨p, ao, cap, hc⟩ : ∃ p ao cap, w.heap[b]? = some (.cells #[p, .slice ao bs.length cap] 43 (0, 0)) := by
    rcases h with ⟨_, v, hb, hown, _⟩ | ⟨_, v, hb, hown, _⟩
    all_goals
      rcases hown.2 with ⟨hv, h0⟩ | ⟨g, cap, cur, fz, hv, _⟩
      · exact ⟨_, none, 0, by rw [hb, hv, h0]⟩
      · exact ⟨_, _, cap, by rw [hb, hv]⟩
  have c1 : w.cell? ⟨b, 1, none⟩ = some (.slice ao bs.length cap) := by rw [Lib.cell_of_heap hc]; rfl
  go_enter Tryd.func39, Tryd.ntmps39
  go_wp2
  go_ret
  exact ⟨rfl, rfl⟩

theorem infoU8 : (Tryd.prog.info? 5).map (fun i => (i.zero, i.size, i.bytes)) = some (some (.int .u8 0), 1, 1) := by kernel_rfl

set_option maxHeartbeats 2000000 in
theorem writeByte_k (B b : Nat) (bs : List Value) (c : Int) (w : World) (h : Lib.IsBuilderF 43 5 B b bs w) (hlen : bs.length + 1 ≤ 140737488355328) (hBw : B ≤ w.heap.size) :
    Calls Tryd.prog 40 #[.pointer (some ⟨b, 0, none⟩), .int .u8 c] w fun e w' => e = .returned .nilIface ∧ (Lib.BuilderAtF 43 5 B b (.pointer (some ⟨b, 0, none⟩)) (bs ++ [.int .u8 c]) w' ∧ Below B w w' ∧ Lib.OthersKept 5 (some b) w w') := by
  obtain ⟨i0, hi, hz0, hz1, hz2⟩ := info3 infoU8
  go_enter Tryd.func40, Tryd.ntmps40
  go_wp2_with fail
  refine (copyCheck_k B b bs _ h).mono ?_
  rintro e w1 ⟨rfl, h1, hb1, hk1⟩
  obtain ⟨hB, v, hbk, hown, hne⟩ := h1
  have c0 : w1.cell? ⟨b, 0, none⟩ = some (.pointer (some ⟨b, 0, none⟩)) := by rw [Lib.cell_of_heap hbk]; rfl
  have c1 : w1.cell? ⟨b, 1, none⟩ = some v := by rw [Lib.cell_of_heap hbk]; rfl
  go_wp2_with (at_builtin; refine wpList_append_ownF _ rfl _ _ 41 rfl B 5 i0 (.int .u8 0) 1 1 Tryd.underlying41 hi hz0 hz1 hz2 rfl (by decide) _ _ _ rfl (hown.alloc _) ⟨w1.heap.size, 0, none⟩ 1 1 [.int .u8 c] rfl rfl ?c1 ?c2 ?c3 ?c4 ?c5 ?_)
  case c1 =>
    intro j u hj
    match j, hj with
    | 0, hj => simp at hj; subst hj; simp [Addr.add]
  case c2 => intro u hu; simp at hu; subst hu; rfl
  case c3 => unfold maxLen; omega
  case c4 => omega
  case c5 => have := hb1.size; simp; omega
  intro v' w2 hown' hgrow _
  have hlt : b < w1.heap.size := by
    rcases Nat.lt_or_ge b w1.heap.size with h' | h'
    · exact h'
    · simp [Array.getElem?_eq_none h'] at hbk
  have hb2 : w2.heap[b]? = some (.cells #[.pointer (some ⟨b, 0, none⟩), v] 43 (0, 0)) := by
    rw [hgrow.block b (by simp; omega) (fun e => hne e.symm), Lib.alloc_old w1 _ b hlt]
    exact hbk
  have d0 : w2.cell? ⟨b, 0, none⟩ = some (.pointer (some ⟨b, 0, none⟩)) := by rw [Lib.cell_of_heap hb2]; rfl
  have d1 : w2.cell? ⟨b, 1, none⟩ = some v := by rw [Lib.cell_of_heap hb2]; rfl
  have f1 : w2.frozen? ⟨b, 1, none⟩ = false := Lib.frozen_of_heap hb2 1
  obtain ⟨g, cap, rfl⟩ : ∃ g cap, v' = .slice (some ⟨g, 0, none⟩) (bs.length + 1) cap := by
    rcases hown'.2 with ⟨_, h0⟩ | ⟨g, cap, cur, fz, hv, _⟩
    · omega
    · exact ⟨g, cap, hv⟩
  go_wp2
  go_ret
  refine ⟨rfl, ?_, ?_, ((hk1.alloc _).grown hgrow (Lib.ownsRowF_kind (hown.alloc _))).setCell ⟨b, 1, none⟩ rfl _⟩
  · exact Lib.BuilderAtF.put (T := 43) (e := 5) hB hb2 (bs' := bs ++ [.int .u8 c]) (by simpa using hown') (by decide)
  · exact ((hb1.alloc (by have := hb1.size; omega) _).grown hgrow (by have := hb1.size; simp; omega) (fun k hk => (hown.lt k hk).1)).setCell (p := ⟨b, 1, none⟩) hB _

namespace Wd
/-- is it a blank? -/
def bl (r : Nat) : Bool := decide (r = 9 ∨ r = 10 ∨ r = 13 ∨ r = 32)
theorem bl_is (r : Nat) : Ch.isT Ch.tab 1 r = bl r := by
  have h : Ch.isT Ch.tab 1 r = decide ((9 ≤ r ∧ r ≤ 10) ∨ r = 13 ∨ r = 32) := by
    rw [Ch.isT_eq, show Ch.pick Ch.tab 1 = [(9, 10), (13, 13), (32, 32)] from by decide]
    simp only [Ch.isR]
    rw [Bool.eq_iff_iff, decide_eq_true_eq]
    constructor
    · intro h
      split at h
      · omega
      · split at h
        · omega
        · split at h
          · omega
          · cases h
    · intro h
      split
      · rfl
      · split
        · rfl
        · split
          · rfl
          · omega
  rw [h]
  unfold bl
  rw [Bool.eq_iff_iff, decide_eq_true_eq, decide_eq_true_eq]
  omega
/-- one character more: what is written, and whether blanks wait -/
def sqs (st : List Nat × Bool) (r : Nat) : List Nat × Bool :=
  if bl r then (st.1, decide (0 < st.1.length)) else (if st.2 then st.1 ++ [32] ++ [r] else st.1 ++ [r], false)
def sq (L : List Nat) : List Nat × Bool := L.foldl sqs ([], false)
theorem sq_snoc (L : List Nat) (r : Nat) : sq (L ++ [r]) = sqs (sq L) r := by simp [sq]
theorem snocInd {P : List Nat → Prop} (h0 : P []) (h1 : ∀ L r, P L → P (L ++ [r])) (L : List Nat) : P L := by
  have h : ∀ M : List Nat, P M.reverse := by
    intro M
    induction M with
    | nil => exact h0
    | cons a M ih => rw [List.reverse_cons]; exact h1 _ _ ih
  have := h L.reverse
  rwa [List.reverse_reverse] at this
theorem sq_length (L : List Nat) : (sq L).1.length + (if (sq L).2 then 1 else 0) ≤ 2 * L.length := by
  refine snocInd (P := fun L => (sq L).1.length + (if (sq L).2 then 1 else 0) ≤ 2 * L.length) ?_ ?_ L
  · simp [sq]
  · intro L r ih
    rw [sq_snoc, List.length_append]
    unfold sqs
    by_cases h : bl r
    · rw [if_pos h]
      simp only [List.length_singleton]
      split <;> split at ih <;> omega
    · rw [if_neg h]
      simp only [List.length_singleton]
      by_cases e : (sq L).2
      · rw [if_pos e] at ih ⊢
        simp
        omega
      · rw [if_neg e] at ih ⊢
        simp
        omega
/-- blanks wait just where something is written and the last one was a blank -/
theorem sq_gap (L : List Nat) : (sq L).2 = (decide (0 < (sq L).1.length) && bl (lg L (L.length - 1)) && decide (0 < L.length)) := by
  refine snocInd (P := fun L => (sq L).2 = (decide (0 < (sq L).1.length) && bl (lg L (L.length - 1)) && decide (0 < L.length))) ?_ ?_ L
  · simp [sq]
  · intro L r _
    have hl : lg (L ++ [r]) ((L ++ [r]).length - 1) = r := by simp [lg]
    rw [hl, sq_snoc]
    unfold sqs
    by_cases h : bl r
    · simp [h]
    · simp [h]
theorem sq_scal (L : List Nat) (hL : ∀ r ∈ L, Rn.scal r) : ∀ r ∈ (sq L).1, Rn.scal r := by
  revert hL
  refine snocInd (P := fun L => (∀ r ∈ L, Rn.scal r) → ∀ r ∈ (sq L).1, Rn.scal r) ?_ ?_ L
  · simp [sq]
  · intro L q ih hL
    have ih' := ih (fun r hr => hL r (by simp [hr]))
    have hq := hL q (by simp)
    have h32 : Rn.scal 32 := ⟨by decide, by decide⟩
    rw [sq_snoc]
    unfold sqs
    intro r hr
    split at hr
    · exact ih' r hr
    · simp only [] at hr
      split at hr
      · simp at hr
        rcases hr with hr | rfl | rfl
        · exact ih' r hr
        · exact h32
        · exact hq
      · simp at hr
        rcases hr with hr | rfl
        · exact ih' r hr
        · exact hq
end Wd
end Go.Proofs.YtfbjkebinbemdaaDoor
