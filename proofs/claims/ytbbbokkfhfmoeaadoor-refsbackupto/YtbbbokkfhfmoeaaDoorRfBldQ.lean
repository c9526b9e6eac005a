/-
  A Builder beside a row of bytes of one's own: what WriteByte and WriteRune leave as it was.
-/
import Derived.Test.YtbbbokkfhfmoeaaDoorRfBld
import Derived.Lib.SmallJoins
namespace Go.Proofs.YtbbbokkfhfmoeaaDoor
open Go.RowKit Go.Lib

/-- a Builder at block b; its bytes lie from block Q on -/
def BdQ (b Q : Nat) (bs : List Value) (w : World) : Prop := b < Q ∧ Q ≤ w.heap.size ∧ ∃ p v, (p = Value.pointer none ∨ p = .pointer (some ⟨b, 0, none⟩)) ∧ w.heap[b]? = some (.cells #[p, v] 53 (0, 0)) ∧ w.ownsRowF Q 5 1 v bs.length bs
/-- what lies ahead of Q stays, but for b -/
structure KQ (b Q : Nat) (w w' : World) : Prop where
  os : w'.os = w.os
  tape : w'.tape = w.tape
  output : w'.output = w.output
  size : w.heap.size ≤ w'.heap.size
  block : ∀ k, k < Q → k ≠ b → w'.heap[k]? = w.heap[k]?
theorem KQ.trans {b Q : Nat} {a c d : World} (h : KQ b Q a c) (k : KQ b Q c d) : KQ b Q a d := ⟨k.os.trans h.os, k.tape.trans h.tape, k.output.trans h.output, Nat.le_trans h.size k.size, fun i hi hn => (k.block i hi hn).trans (h.block i hi hn)⟩
theorem KQ.refl (b Q : Nat) (w : World) : KQ b Q w w := ⟨rfl, rfl, rfl, Nat.le_refl _, fun _ _ _ => rfl⟩
theorem KQ.of_below {b Q : Nat} {w w' : World} (h : Below w.heap.size w w') (hQ : Q ≤ w.heap.size) : KQ b Q w w' := ⟨h.os, h.tape, h.output, h.size, fun k hk _ => h.block k (by omega)⟩
theorem KQ.below {b Q : Nat} {w0 w w' : World} (h : KQ b Q w w') (h0 : Below b w0 w) (hb : b ≤ Q) : Below b w0 w' := ⟨h.os.trans h0.os, h.tape.trans h0.tape, h.output.trans h0.output, Nat.le_trans h0.size h.size, fun k hk => (h.block k (by omega) (by omega)).trans (h0.block k hk)⟩
theorem BdQ.below {b Q : Nat} {bs : List Value} {w w' : World} (h : BdQ b Q bs w) (hb : Below w.heap.size w w') : BdQ b Q bs w' := by
  obtain ⟨h1, h2, p, v, hp, hc, hown⟩ := h
  have k : ∀ {q : Nat} {o : Obj}, w.heap[q]? = some o → w'.heap[q]? = some o := fun {q o} e => (hb.block q (Array.getElem?_eq_some_iff.1 e).1).trans e
  refine ⟨h1, Nat.le_trans h2 hb.size, p, v, hp, k hc, ⟨hown.1, ?_⟩⟩
  rcases hown.2 with hn | ⟨g, cap, cur, fz, hv, hbg, hg, rest⟩
  · exact .inl hn
  · exact .inr ⟨g, cap, cur, fz, hv, hbg, k hg, rest⟩
theorem BdQ.isB {b Q : Nat} {bs : List Value} {w : World} (h : BdQ b Q bs w) : Lib.IsBuilderF 53 5 b b bs w := by
  obtain ⟨h1, h2, p, v, hp, hc, hown⟩ := h
  have hown' : w.ownsRowF b 5 1 v bs.length bs := by
    refine ⟨hown.1, ?_⟩
    rcases hown.2 with hn | ⟨g, cap, cur, fz, hv, hbg, rest⟩
    · exact .inl hn
    · exact .inr ⟨g, cap, cur, fz, hv, by omega, rest⟩
  have hne : v.ownBlock ≠ some b := fun e => by have := (hown.lt b e).1; omega
  rcases hp with rfl | rfl
  · exact .inl ⟨Nat.le_refl _, v, hc, hown', hne⟩
  · exact .inr ⟨Nat.le_refl _, v, hc, hown', hne⟩

theorem copyCheck_q {b Q : Nat} {bs : List Value} {w : World} (h : BdQ b Q bs w) :
    Calls Tryd.prog 45 #[.pointer (some ⟨b, 0, none⟩)] w fun e w' => e = .returned (.tuple #[]) ∧ (∃ v, w'.heap[b]? = some (.cells #[.pointer (some ⟨b, 0, none⟩), v] 53 (0, 0)) ∧ w'.ownsRowF Q 5 1 v bs.length bs) ∧ KQ b Q w w' := by
  obtain ⟨h1, h2, p, v, hp, hc, hown⟩ := h
  rcases hp with rfl | rfl
  · have c0 : w.cell? ⟨b, 0, none⟩ = some (.pointer none) := by rw [Lib.cell_of_heap hc]; rfl
    have hsh : w.shape? b = some (53, 2) := by unfold World.shape?; rw [hc]; rfl
    refine (copyCheck_fresh b w c0 hsh (Lib.frozen_of_heap hc 0)).mono ?_
    rintro e w' ⟨rfl, rfl⟩
    refine ⟨rfl, ⟨v, Go.Joins.block_setCell hc _, ⟨hown.1, ?_⟩⟩, ⟨rfl, rfl, rfl, by simp, fun k hk hn => Below.heap_setCell w ⟨b, 0, none⟩ _ k hn⟩⟩
    rcases hown.2 with hn | ⟨g, cap, cur, fz, hv, hbg, hg, rest⟩
    · exact .inl hn
    · exact .inr ⟨g, cap, cur, fz, hv, hbg, (Below.heap_setCell w ⟨b, 0, none⟩ _ g (by show g ≠ b; omega)).trans hg, rest⟩
  · have c0 : w.cell? ⟨b, 0, none⟩ = some (.pointer (some ⟨b, 0, none⟩)) := by rw [Lib.cell_of_heap hc]; rfl
    refine (copyCheck_used b w c0).mono ?_
    rintro e w' ⟨rfl, rfl⟩
    exact ⟨rfl, ⟨v, hc, hown⟩, KQ.refl _ _ _⟩
/-- the end of a write -/
theorem BdQ.put {b Q : Nat} {bs : List Value} {w : World} {v v' : Value} {p : Value} (hb : b < Q) (hs : Q ≤ w.heap.size) (hc : w.heap[b]? = some (.cells #[.pointer (some ⟨b, 0, none⟩), v] 53 (0, 0))) (hown : w.ownsRowF Q 5 1 v' bs.length bs) (_hp : p = .pointer none) : BdQ b Q bs (w.setCell ⟨b, 1, none⟩ v') := by
  refine ⟨hb, by simpa using hs, .pointer (some ⟨b, 0, none⟩), v', .inr rfl, Go.Joins.block_setCell hc _, ⟨hown.1, ?_⟩⟩
  rcases hown.2 with hn | ⟨g, cap, cur, fz, hv, hbg, hg, rest⟩
  · exact .inl hn
  · exact .inr ⟨g, cap, cur, fz, hv, hbg, (Below.heap_setCell w ⟨b, 1, none⟩ _ g (by show g ≠ b; omega)).trans hg, rest⟩

set_option maxHeartbeats 2000000 in
theorem writeByte_q {b Q : Nat} {bs : List Value} {w : World} (c : Int) (h : BdQ b Q bs w) (hlen : bs.length + 1 ≤ 140737488355328) :
    Calls Tryd.prog 30 #[.pointer (some ⟨b, 0, none⟩), .int .u8 c] w fun e w' => e = .returned .nilIface ∧ BdQ b Q (bs ++ [.int .u8 c]) w' ∧ KQ b Q w w' := by
  obtain ⟨i0, hi, hz0, hz1, hz2⟩ := info_parts infoB8
  have hbQ := h.1
  have hQs := h.2.1
  have cC := copyCheck_q h
  clear h
  go_enter Tryd.func30, Tryd.ntmps30
  go_wp2_with fail
  refine cC.mono ?_
  rintro e w1 ⟨rfl, ⟨v, hbk, hown⟩, hk1⟩
  have hs1 := hk1.size
  have c0 : w1.cell? ⟨b, 0, none⟩ = some (.pointer (some ⟨b, 0, none⟩)) := by rw [Lib.cell_of_heap hbk]; rfl
  have c1 : w1.cell? ⟨b, 1, none⟩ = some v := by rw [Lib.cell_of_heap hbk]; rfl
  clear cC
  go_wp2_with (at_builtin; refine wpList_append_ownF _ rfl _ _ 22 rfl Q 5 i0 (.int .u8 0) 1 1 Tryd.underlying22 hi hz0 hz1 hz2 rfl (by decide) _ _ _ rfl (hown.alloc _) ⟨w1.heap.size, 0, none⟩ 1 1 [.int .u8 c] rfl rfl ?c1 ?c2 ?c3 ?c4 ?c5 ?_)
  case c1 =>
    intro j u hj
    match j, hj with
    | 0, hj => simp at hj; subst hj; simp [Addr.add]
  case c2 => intro u hu; simp at hu; subst hu; rfl
  case c3 => unfold maxLen; omega
  case c4 => omega
  case c5 => simp; omega
  intro v' w2 hown' hgrow _
  have hlt : b < w1.heap.size := by omega
  have hvne : ∀ k, k < Q → some k ≠ v.ownBlock := fun k hk e => by have := (hown.lt k e.symm).1; omega
  have hb2 : w2.heap[b]? = some (.cells #[.pointer (some ⟨b, 0, none⟩), v] 53 (0, 0)) := by
    rw [hgrow.block b (by simp; omega) (hvne b hbQ), Lib.alloc_old w1 _ b hlt]
    exact hbk
  have d0 : w2.cell? ⟨b, 0, none⟩ = some (.pointer (some ⟨b, 0, none⟩)) := by rw [Lib.cell_of_heap hb2]; rfl
  have d1 : w2.cell? ⟨b, 1, none⟩ = some v := by rw [Lib.cell_of_heap hb2]; rfl
  have f1 : w2.frozen? ⟨b, 1, none⟩ = false := Lib.frozen_of_heap hb2 1
  have hs2 : w1.heap.size ≤ w2.heap.size := by have := hgrow.size; simp at this; omega
  have hK : KQ b Q w1 w2 := ⟨hgrow.os, hgrow.tape, hgrow.output, hs2, fun k hk _ => (hgrow.block k (by simp; omega) (hvne k hk)).trans (Lib.alloc_old w1 _ k (by omega))⟩
  obtain ⟨g, cap, rfl⟩ : ∃ g cap, v' = .slice (some ⟨g, 0, none⟩) (bs.length + 1) cap := by
    rcases hown'.2 with ⟨_, h0⟩ | ⟨g, cap, cur, fz, hv, _⟩
    · omega
    · exact ⟨g, cap, hv⟩
  have hput := BdQ.put (p := .pointer none) (bs := bs ++ [.int .u8 c]) hbQ (show Q ≤ w2.heap.size by omega) hb2 (by simpa using hown') rfl
  have HP := hide' hput
  have HK := hide' hK
  clear hput hK hown' hgrow hown
  go_wp2
  go_ret
  exact ⟨rfl, HP.out, (hk1.trans HK.out).trans ⟨rfl, rfl, rfl, by simp, fun k hk hn => Below.heap_setCell w2 ⟨b, 1, none⟩ _ k hn⟩⟩

set_option maxHeartbeats 2000000 in
theorem writeRune_q {b Q : Nat} {bs : List Value} {w : World} (r : Int) (hr0 : -2147483648 ≤ r) (hr1 : r ≤ 2147483647) (h : BdQ b Q bs w) (hlen : bs.length + 4 ≤ 140737488355328) :
    Calls Tryd.prog 31 #[.pointer (some ⟨b, 0, none⟩), .int .i32 r] w fun e w' => e = .returned (.tuple #[.int .i64 (Lib.runeCells r).length, .nilIface]) ∧ BdQ b Q (bs ++ Lib.runeCells r) w' ∧ KQ b Q w w' := by
  have hk4 := Lib.runeCells_le r
  have hbQ := h.1
  have hQs := h.2.1
  have cC := copyCheck_q h
  clear h
  go_enter Tryd.func31, Tryd.ntmps31
  go_wp2_with fail
  refine cC.mono ?_
  rintro e w1 ⟨rfl, ⟨v, hbk, hown⟩, hk1⟩
  have hs1 := hk1.size
  obtain ⟨ao, cap, rfl⟩ : ∃ ao cap, v = .slice ao bs.length cap := by
    rcases hown.2 with ⟨hv, h0⟩ | ⟨g, cap, cur, fz, hv, _⟩
    · exact ⟨none, 0, by rw [hv, h0]⟩
    · exact ⟨_, _, hv⟩
  have c0 : w1.cell? ⟨b, 0, none⟩ = some (.pointer (some ⟨b, 0, none⟩)) := by rw [Lib.cell_of_heap hbk]; rfl
  have c1 : w1.cell? ⟨b, 1, none⟩ = some (.slice ao bs.length cap) := by rw [Lib.cell_of_heap hbk]; rfl
  have cR := Tryd.utf8_AppendRune_row Q _ bs.length bs r hr0 hr1 _ hown hlen (by omega)
  clear cC
  go_wp2_with fail
  refine cR.mono ?_
  rintro e w2 ⟨v', rfl, hown', o, hgrow⟩
  have hlt : b < w1.heap.size := by omega
  have hvne : ∀ k, k < Q → some k ≠ (Value.slice ao bs.length cap).ownBlock := fun k hk e => by have := (hown.lt k e.symm).1; omega
  have hb2 : w2.heap[b]? = some (.cells #[.pointer (some ⟨b, 0, none⟩), .slice ao bs.length cap] 53 (0, 0)) := by
    rw [hgrow.block b (by simp; omega) (hvne b hbQ), Lib.alloc_old w1 _ b hlt]
    exact hbk
  have d0 : w2.cell? ⟨b, 0, none⟩ = some (.pointer (some ⟨b, 0, none⟩)) := by rw [Lib.cell_of_heap hb2]; rfl
  have d1 : w2.cell? ⟨b, 1, none⟩ = some (.slice ao bs.length cap) := by rw [Lib.cell_of_heap hb2]; rfl
  have f1 : w2.frozen? ⟨b, 1, none⟩ = false := Lib.frozen_of_heap hb2 1
  have hs2 : w1.heap.size ≤ w2.heap.size := by have := hgrow.size; simp at this; omega
  have hK : KQ b Q w1 w2 := ⟨hgrow.os, hgrow.tape, hgrow.output, hs2, fun k hk _ => (hgrow.block k (by simp; omega) (hvne k hk)).trans (Lib.alloc_old w1 _ k (by omega))⟩
  obtain ⟨g, cap', rfl⟩ : ∃ g cap', v' = .slice (some ⟨g, 0, none⟩) (bs.length + (Lib.runeCells r).length) cap' := by
    rcases hown'.2 with ⟨_, h0⟩ | ⟨g, cap', cur, fz, hv, _⟩
    · omega
    · exact ⟨g, cap', hv⟩
  have hput := BdQ.put (p := .pointer none) (bs := bs ++ Lib.runeCells r) hbQ (show Q ≤ w2.heap.size by omega) hb2 (by simpa using hown') rfl
  have HP := hide' hput
  have HK := hide' hK
  clear hput hK hown' hgrow hown cR
  go_wp2
  go_ret2
  refine ⟨?_, HP.out, (hk1.trans HK.out).trans ⟨rfl, rfl, rfl, by simp, fun k hk hn => Below.heap_setCell w2 ⟨b, 1, none⟩ _ k hn⟩⟩
  have e : ((bs.length : Int) + ((Lib.runeCells r).length : Int) - (bs.length : Int)) = ((Lib.runeCells r).length : Int) := by omega
  simp [e]
end Go.Proofs.YtbbbokkfhfmoeaaDoor
