/-
  TWO HUNTS and the document's two, each there or not; a nil Hunt's calls.
-/
import Derived.Test.YtgbldbohadacmaaHtOne
namespace Go.Proofs.Ytgbldbohadacmaa
open Go.RowKit Go.Lib
namespace Ht
theorem eno_ok {c N : Int} (h : eno c N = 0) : 0 ≤ c ∧ c ≤ 8 ∧ 0 ≤ N := by
  unfold eno at h
  by_cases a : c < 0 ∨ 8 < c
  · rw [if_pos a] at h; omega
  · rw [if_neg a] at h
    by_cases b : N < 0
    · rw [if_pos b] at h; omega
    · omega
theorem eno_bad {c N : Int} (h : eno c N ≠ 0) : (c < 0 ∨ 8 < c ∨ N < 0) ∧ (if c < 0 ∨ 8 < c then (4 : Int) else 2) = eno c N := by
  unfold eno at h ⊢
  by_cases a : c < 0 ∨ 8 < c
  · rw [if_pos a]; exact ⟨by omega, (if_pos a).symm⟩
  · rw [if_neg a] at h ⊢
    by_cases b : N < 0
    · exact ⟨by omega, by rw [if_pos b, if_neg a]⟩
    · rw [if_neg b] at h; exact absurd rfl h
/-- all that is kept of both comparisons, where they are there -/
def Two (on on' : Bool) (W W0 : World) (B0 D M C : Nat) (N : Int) (T : List Nat) (xt xb va : Value) (B0' D' M' C' : Nat) (N' : Int) (T' : List Nat) (xt' xb' va' : Value) (k : Nat) (w : World) : Prop :=
  Below W.heap.size W w ∧ W.heap.size ≤ W0.heap.size ∧ (on = true → W.heap.size ≤ D ∧ W.heap.size ≤ M) ∧ (on' = true → W.heap.size ≤ D' ∧ W.heap.size ≤ M') ∧
  ∃ vc L wh vc' L' wh', (on = true → Pr W0 B0 D M C N T xt xb va vc L wh w ∧ L.length ≤ k * 1048576) ∧ (on' = true → Pr W0 B0' D' M' C' N' T' xt' xb' va' vc' L' wh' w ∧ L'.length ≤ k * 1048576) ∧
    (on = true → on' = true → ∀ q, Mn D M vc q → ¬ Mn D' M' vc' q)
section
variable {on on' : Bool} {W W0 w w' : World} {B0 D M C : Nat} {N : Int} {T : List Nat} {xt xb va : Value} {B0' D' M' C' : Nat} {N' : Int} {T' : List Nat} {xt' xb' va' : Value} {k : Nat}
theorem Two.swap (h : Two on on' W W0 B0 D M C N T xt xb va B0' D' M' C' N' T' xt' xb' va' k w) : Two on' on W W0 B0' D' M' C' N' T' xt' xb' va' B0 D M C N T xt xb va k w := by
  obtain ⟨h1, h2, h3, h4, vc, L, wh, vc', L', wh', h5, h6, h7⟩ := h
  exact ⟨h1, h2, h4, h3, vc', L', wh', vc, L, wh, h6, h5, fun a b q c d => h7 b a q d c⟩
theorem Two.more {k' : Nat} (hk : k ≤ k') (h : Two on on' W W0 B0 D M C N T xt xb va B0' D' M' C' N' T' xt' xb' va' k w) (hb : Below w.heap.size w w') : Two on on' W W0 B0 D M C N T xt xb va B0' D' M' C' N' T' xt' xb' va' k' w' := by
  obtain ⟨h1, h2, h3, h4, vc, L, wh, vc', L', wh', h5, h6, h7⟩ := h
  have hm : k * 1048576 ≤ k' * 1048576 := Nat.mul_le_mul_right _ hk
  exact ⟨h1.trans (hb.mono h1.size), h2, h3, h4, vc, L, wh, vc', L', wh', fun e => ⟨(h5 e).1.below hb, Nat.le_trans (h5 e).2 hm⟩, fun e => ⟨(h6 e).1.below hb, Nat.le_trans (h6 e).2 hm⟩, h7⟩
/-- one call of the first -/
theorem Two.one (h : Two true on' W W0 B0 D M C N T xt xb va B0' D' M' C' N' T' xt' xb' va' k w) (hb : Below w.heap.size w w') (K : Int) (O : Bool) (f : Nat → Nat) (n : Nat) (hf : ∀ j, f j < 256) (hn : n ≤ 1048576) (hk : k < 1048576) (hT : T.length ≤ 1099511627776) :
    Calls Try.prog 7 #[.pointer (some ⟨D, 0, none⟩), .pointer (some ⟨M, 0, none⟩), .agg #[.int .i64 K, .bool O, .string (Rn.arr f n)]] w' fun e w2 => e = .returned (.bool true) ∧ Two true on' W W0 B0 D M C N T xt xb va B0' D' M' C' N' T' xt' xb' va' (k + 1) w2 ∧ ∀ q, w.heap.size ≤ q → q < w'.heap.size → w2.heap[q]? = w'.heap[q]? := by
  obtain ⟨h1, h2, h3, h4, vc, L, wh, vc', L', wh', h5, h6, h7⟩ := h
  have p := (h5 rfl).1
  have hl := (h5 rfl).2
  refine (htOne (p.below hb) K O f n hf (by omega) hT).mono ?_
  rintro e w2 ⟨rfl, L2, wh2, hL2, v2, p2, o2, f2⟩
  have hm : k * 1048576 ≤ (k + 1) * 1048576 := Nat.mul_le_mul_right _ (Nat.le_succ k)
  have hA : L2.length ≤ (k + 1) * 1048576 := by rw [Nat.succ_mul]; exact Nat.le_trans hL2 (Nat.add_le_add hl hn)
  have hw : W.heap.size ≤ w.heap.size := h1.size
  have hs := hb.size
  clear hn hk hT
  refine ⟨rfl, ⟨⟨o2.os.trans (hb.os.trans h1.os), o2.tape.trans (hb.tape.trans h1.tape), o2.output.trans (hb.output.trans h1.output), by have := o2.size; omega, fun q hq => ?_⟩, h2, h3, h4, v2, L2, wh2, vc', L', wh', fun _ => ⟨p2, hA⟩, fun e => ⟨(h6 e).1.keep (fun q hq => ?_) p2.ks, Nat.le_trans (h6 e).2 hm⟩, fun _ e q hq hq' => ?_⟩, fun q h8 h9 => o2.block q h9 fun c => ?_⟩
  · refine (o2.block q (by omega) ?_).trans ((hb.block q (by omega)).trans (h1.block q hq))
    rintro (rfl | rfl | c)
    · have := (h3 rfl).1; omega
    · have := (h3 rfl).2; omega
    · have := ((p.below hb).ov.lt q c).1; omega
  · have hlt := (h6 e).1.lt hq
    exact (o2.block q (by omega) fun c => h7 rfl e q c hq).trans (hb.block q hlt)
  · rcases hq with rfl | rfl | c
    · exact h7 rfl e _ (.inl rfl) hq'
    · exact h7 rfl e _ (.inr (.inl rfl)) hq'
    · rcases f2 with f2 | ⟨g, hg, f2⟩
      · exact h7 rfl e q (.inr (.inr (f2 ▸ c))) hq'
      · rw [c] at f2
        cases f2
        have := (h6 e).1.lt hq'
        omega
  · have := p.lt c
    omega
end
/-- the start: nothing came yet -/
theorem Pr.start {W0 : World} {B0 D M C : Nat} {N : Int} {T : List Nat} {xt xb va : Value} (hc : C < 9) (hq : Hq W0 D (cc C) (tdc C) (cn C N) xt xb T [] false) (hR : Rws W0 (cc C) T xt xb) (hr : RC W0 M C N va (.slice none 0 0) false) (ho : W0.ownsRow B0 3 1 va T.length (ic T)) :
    Pr W0 B0 D M C N T xt xb va (.slice none 0 0) [] false W0 :=
  ⟨hc, by obtain ⟨_, _, h, _⟩ := hq; exact h.lt, hr.lt, hR, ho, .refl _, hq, hr, World.ownsRow_nil _ _ _ _⟩
end Ht
set_option maxHeartbeats 1000000 in
theorem htNilAdd (s : ByteArray) (w : World) : Calls Try.prog 10 #[.pointer none, .string s] w fun e w' => e = .returned (.int .i64 1) ∧ w' = w := by
  go_enter Try.func10, Try.ntmps10
  go_wp2_with fail
  go_ret
  exact ⟨rfl, rfl⟩
set_option maxHeartbeats 1000000 in
theorem htNilClose (w : World) : Calls Try.prog 11 #[.pointer none] w fun e w' => e = .returned (.int .i64 1) ∧ w' = w := by
  go_enter Try.func11, Try.ntmps11
  go_wp2_with fail
  go_ret
  exact ⟨rfl, rfl⟩
set_option maxHeartbeats 1000000 in
theorem htNilTruth (w : World) : Calls Try.prog 8 #[.pointer none] w fun e w' => e = .returned (.int .i64 0) ∧ w' = w := by
  go_enter Try.func8, Try.ntmps8
  go_wp2_with fail
  go_ret
  exact ⟨rfl, rfl⟩
set_option maxHeartbeats 1000000 in
theorem htNilKept (w : World) : Calls Try.prog 12 #[.pointer none] w fun e w' => e = .returned (.int .i64 0) ∧ w' = w := by
  go_enter Try.func12, Try.ntmps12
  go_wp2_with fail
  go_ret
  exact ⟨rfl, rfl⟩
section
variable (c N : Int) (f : Nat → Nat) (n : Nat) (w : World)
/-- the program's New, where it answers a Hunt -/
theorem prNew (he : Ht.eno c N = 0) (hf : ∀ j, f j < 256) (hn : n ≤ 1099511627776) (hN2 : N ≤ 9223372036854775807) :
    Calls Try.prog 5 #[.int .i64 c, .string (Rn.arr f n), .int .i64 N] w fun e w' => ∃ D, e = .returned (.tuple #[.pointer (some ⟨D, 0, none⟩), .int .i64 0]) ∧ w.heap.size ≤ D ∧ Ht.Hu w' D (Ht.cc c) (Ht.tdc c) (Ht.cn c N) (Wd.R f n 0) [] false ∧ Below w.heap.size w w' := by
  obtain ⟨h1, h2, h3⟩ := Ht.eno_ok he
  exact htNew c N f n w hf hn h3 hN2 h1 h2
theorem prNewBad (he : Ht.eno c N ≠ 0) : Calls Try.prog 5 #[.int .i64 c, .string (Rn.arr f n), .int .i64 N] w fun e w' => e = .returned (.tuple #[.pointer none, .int .i64 (Ht.eno c N)]) ∧ w' = w := by
  obtain ⟨h1, h2⟩ := Ht.eno_bad he
  have := htNewBad c N (Rn.arr f n) w h1
  rwa [h2] at this
/-- the document's -/
theorem prRefNew (he : Ht.eno c N = 0) (hf : ∀ j, f j < 256) (hn : n ≤ 1099511627776) :
    Calls Try.prog 6 #[.int .i64 c, .string (Rn.arr f n), .int .i64 N] w fun e w' => ∃ M va, e = .returned (.tuple #[.pointer (some ⟨M, 0, none⟩), .int .i64 0]) ∧ w.heap.size ≤ M ∧ Ht.RC w' M c N va (.slice none 0 0) false ∧ w'.ownsRow w.heap.size 3 1 va (Wd.R f n 0).length (Ht.ic (Wd.R f n 0)) ∧ Below w.heap.size w w' := by
  refine (htRefNew c N f n w hf hn).mono ?_
  rintro e w' ⟨hb, ⟨h, _⟩ | ⟨_, b, va, rfl, h1, h2, h3⟩⟩
  · exact absurd he h
  · exact ⟨b, va, rfl, h1, h2, h3, hb⟩
theorem prRefNewBad (he : Ht.eno c N ≠ 0) (hf : ∀ j, f j < 256) (hn : n ≤ 1099511627776) :
    Calls Try.prog 6 #[.int .i64 c, .string (Rn.arr f n), .int .i64 N] w fun e w' => e = .returned (.tuple #[.pointer none, .int .i64 (Ht.eno c N)]) ∧ Below w.heap.size w w' := by
  refine (htRefNew c N f n w hf hn).mono ?_
  rintro e w' ⟨hb, ⟨_, rfl⟩ | ⟨h, _⟩⟩
  · exact ⟨rfl, hb⟩
  · exact absurd h he
end
end Go.Proofs.Ytgbldbohadacmaa
