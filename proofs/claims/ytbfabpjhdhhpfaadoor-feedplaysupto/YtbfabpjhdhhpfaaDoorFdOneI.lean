import Derived.Test.YtbfabpjhdhhpfaaDoorFdRefRe
import Derived.Test.YtbfabpjhdhhpfaaDoorFdPlcB
import Derived.Laws.OwnMore
/-
  WALKS over gimletlaw04.place and char, of what is the same.
-/
namespace Go.Proofs.YtbfabpjhdhhpfaaDoor
open Go.RowKit Go.Lib

set_option maxRecDepth 100000 in
set_option maxHeartbeats 1000000 in
theorem place4_same (x0 x1 x2 x3 : Nat) (w : World) :
    Calls Tryd.prog 28 #[.agg #[.int .i64 x0, .int .i64 x1, .int .i64 x2, .int .i64 x3], .agg #[.int .i64 x0, .int .i64 x1, .int .i64 x2, .int .i64 x3]] w fun e w' => e = .returned (.bool true) ∧ Below w.heap.size w w' := by
  go_enter Tryd.func28, Tryd.ntmps28
  go_wp2
  go_ret
  exact ⟨rfl, ((Below.refl _ _).alloc (Nat.le_refl _) _).alloc (by simp) _⟩
set_option maxRecDepth 100000 in
set_option maxHeartbeats 1000000 in
theorem char4_same (r x0 x1 x2 x3 d : Nat) (hr : r < 2147483648) (w : World) :
    Calls Tryd.prog 25 #[.agg #[.int .i32 r, .int .i64 x0, .int .i64 x1, .int .i64 x2, .int .i64 x3, .int .i64 d], .agg #[.int .i64 r, .int .i64 x0, .int .i64 x1, .int .i64 x2, .int .i64 x3, .int .i64 d]] w fun e w' => e = .returned (.bool true) ∧ Below w.heap.size w w' := by
  have c := fun W => place4_same x0 x1 x2 x3 W
  go_enter Tryd.func25, Tryd.ntmps25
  go_wp2_with fail
  refine (c _).mono ?_
  rintro e w1 ⟨rfl, hb1⟩
  have hB : Below w.heap.size w w1 := (((Below.refl _ _).alloc (Nat.le_refl _) _).alloc (by simp) _).trans (hb1.mono (by simp; omega))
  clear c hb1
  go_wp2
  go_ret
  exact ⟨rfl, hB⟩
end Go.Proofs.YtbfabpjhdhhpfaaDoor
/-
  What a Feed and the document's Feed answer is the same.
-/
namespace Go.Proofs.YtbfabpjhdhhpfaaDoor
open Go.RowKit Go.Lib

namespace Fd
open Rn
theorem pk_rune {F : Nat → Nat} (hF : ∀ j, F j < 256) (N T : Nat) (E : Bool) : (pk F N T E).1 < 2147483648 := by
  have := fv_le (off F T) (fun _ => hF _)
  unfold pk
  repeat' split
  all_goals (simp only; omega)
theorem pk_wrong {F : Nat → Nat} {N T : Nat} {E : Bool} (h : (pk F N T E).2.2.2 = 2) : whole (off F T) (N - T) = false ∧ (pk F N T E).2.1 ≤ fk (off F T) (N - T) := by
  cases hw : whole (off F T) (N - T)
  · refine ⟨rfl, ?_⟩
    unfold pk
    rw [hw, if_neg Bool.false_ne_true]
    by_cases h1 : N ≤ T
    · rw [if_pos h1]
      exact Nat.zero_le _
    · rw [if_neg h1]
      cases hx : waits (off F T) (N - T)
      · rw [if_neg Bool.false_ne_true]
        exact Nat.le_refl _
      · rw [if_pos rfl]
        have := (nx_waits hx).2
        split
        · show N - T ≤ _
          omega
        · exact Nat.zero_le _
  · exfalso
    revert h
    unfold pk
    rw [hw, if_pos rfl]
    repeat' split
    all_goals simp
end Fd
theorem pk_same {F : Nat → Nat} (hF : ∀ j, F j < 256) {N T : Nat} {E : Bool} (hr : Fd.Run F N 0 T) : ∃ r x0 x1 x2 x3 d how : Nat, Fd.pkV (Fd.pk F N T E) T (Rn.plc F N T).1 (Rn.plc F N T).2.1 (Rn.plc F N T).2.2 = .tuple #[.agg #[.int .i32 r, .int .i64 x0, .int .i64 x1, .int .i64 x2, .int .i64 x3, .int .i64 d], .int .i64 how] ∧ fromV F N T (Fd.pk F N T E) = .tuple #[.agg #[.int .i64 r, .int .i64 x0, .int .i64 x1, .int .i64 x2, .int .i64 x3, .int .i64 d], .int .i64 how] ∧ r < 2147483648 := by
  have h31 := Fd.pk_rune hF N T E
  have hwr := Fd.pk_wrong (F := F) (N := N) (T := T) (E := E)
  have hpl := fun h k (hk : k ≤ _) => Fd.plc_wrong (k := k) hF hr h hk
  generalize Fd.pk F N T E = x at *
  unfold Fd.pkV fromV
  by_cases h0 : x.2.2.2 = 0
  · rw [if_pos h0, if_pos h0]
    exact ⟨x.1, T, _, _, _, x.2.2.1, 0, rfl, rfl, h31⟩
  · rw [if_neg h0, if_neg h0]
    by_cases h2 : x.2.2.2 = 2
    · rw [if_pos h2, if_pos h2]
      obtain ⟨a, b⟩ := hwr h2
      rw [hpl a x.2.1 b]
      exact ⟨0, T + x.2.1, (Rn.plc F N T).1 + x.2.1, (Rn.plc F N T).2.1, (Rn.plc F N T).2.2 + x.2.1, 0, 2, rfl, rfl, by omega⟩
    · rw [if_neg h2, if_neg h2]
      exact ⟨0, 0, 0, 0, 0, 0, x.2.2.2, rfl, rfl, by omega⟩

/-- a Feed and the document's Feed, which have come to the same -/
structure Duo (w : World) (D B M C : Nat) (v u : Value) (F : Nat → Nat) (N T : Nat) (E : Bool) : Prop where
  feed : Feed w D B F N T E v (Rn.plc F N T)
  ref : Ref4 w M C u F N T E
  byte : ∀ j, F j < 256
  run : Fd.Run F N 0 T
  cr : E = false → T = N → T = 0 ∨ F (T - 1) ≠ 13
  ne : D ≠ M
  vM : v.ownBlock ≠ some M
  uD : u.ownBlock ≠ some D
  vu : ∀ q, v.ownBlock = some q → u.ownBlock ≠ some q
  big : N ≤ 1099511627776
theorem Duo.below {w w' : World} {D B M C : Nat} {v u : Value} {F : Nat → Nat} {N T : Nat} {E : Bool} (h : Duo w D B M C v u F N T E) (hb : Below w.heap.size w w') : Duo w' D B M C v u F N T E :=
  ⟨h.feed.below hb, h.ref.below hb, h.byte, h.run, h.cr, h.ne, h.vM, h.uD, h.vu, h.big⟩

set_option maxRecDepth 100000 in
set_option maxHeartbeats 1000000 in
theorem one_peek {w : World} {D B M C : Nat} {v u : Value} {F : Nat → Nat} {N T : Nat} {E : Bool} (h : Duo w D B M C v u F N T E) (hT : Lib.Utf8Tabs 0 1 w) (oth : Bool) (po : Option Addr) (lo co : Nat) :
    Calls Tryd.prog 9 #[.pointer (some ⟨D, 0, none⟩), .pointer (some ⟨M, 0, none⟩), .agg #[.int .i64 3, .bool oth, .slice po lo co]] w fun e w' => e = .returned (.bool true) ∧ Below w.heap.size w w' := by
  have hTN := h.feed.taken
  have c1 := fun W (hb : Below w.heap.size w W) => feedPeek_abs (tabs_below hT hb (Nat.le_refl _)) h.byte (h.feed.below hb)
  have c2 := fun W (hb : Below w.heap.size w W) => ref4Peek_any (h.ref.below hb) h.byte hTN h.big
  obtain ⟨r, x0, x1, x2, x3, d, how, e1, e2, hr⟩ := pk_same (E := E) h.byte h.run
  rw [e1] at c1
  rw [e2] at c2
  have c3 := fun W => char4_same r x0 x1 x2 x3 d hr W
  clear h e1 e2 hT
  go_enter Tryd.func9, Tryd.ntmps9
  go_wp2_with fail
  refine (c1 _ ((Below.refl _ _).alloc (Nat.le_refl _) _)).mono ?_
  rintro e w1 ⟨rfl, hb1⟩
  have hB1 : Below w.heap.size w w1 := ((Below.refl _ _).alloc (Nat.le_refl _) _).trans (hb1.mono (by simp))
  have hB2 : Below w.heap.size w (w1.alloc (.cells #[.int .i32 r, .int .i64 x0, .int .i64 x1, .int .i64 x2, .int .i64 x3, .int .i64 d] 36)) := hB1.alloc hB1.size _
  have HB2 := hide' hB2
  have c2' := c2 _ hB2
  clear c1 c2 hb1 hB1 hB2
  go_wp2_with fail
  refine c2'.mono ?_
  rintro e w2 ⟨rfl, hb2⟩
  have hB3 := HB2.out.trans (hb2.mono HB2.out.size)
  have hs2 : (w1.alloc (.cells #[.int .i32 r, .int .i64 x0, .int .i64 x1, .int .i64 x2, .int .i64 x3, .int .i64 d] 36)).heap.size = w1.heap.size + 1 := by simp
  have hR : w2.heap[w1.heap.size]? = some (.cells #[.int .i32 r, .int .i64 x0, .int .i64 x1, .int .i64 x2, .int .i64 x3, .int .i64 d] 36 (0, 0)) := (hb2.block w1.heap.size (by omega)).trans (heap_top _ _ rfl)
  have hlt2 : w1.heap.size < w2.heap.size := by have := hb2.size; omega
  obtain ⟨z0, z1, z2, z3, z4, z5⟩ := keepC hR
  have hB4 : Below w.heap.size w (w2.alloc (.cells #[.int .i64 r, .int .i64 x0, .int .i64 x1, .int .i64 x2, .int .i64 x3, .int .i64 d] 66)) := hB3.alloc hB3.size _
  have HB4 := hide' hB4
  clear c2' hb2 HB2 hB3 hR hs2 hB4
  go_wp2_with fail
  refine (c3 _).mono ?_
  rintro e w3 ⟨rfl, hb3⟩
  have hB5 := HB4.out.trans (hb3.mono HB4.out.size)
  clear c3 hb3 z0 z1 z2 z3 z4 z5
  go_wp2
  go_ret
  exact ⟨rfl, hB5⟩
end Go.Proofs.YtbfabpjhdhhpfaaDoor
/-
  WALKS over gimletlaw04.one: Place, End, Next.
-/
namespace Go.Proofs.YtbfabpjhdhhpfaaDoor
open Go.RowKit Go.Lib

/-- nothing but the two and their rows has changed -/
structure But4 (D M : Nat) (v u : Value) (w w' : World) : Prop where
  os : w'.os = w.os
  tape : w'.tape = w.tape
  output : w'.output = w.output
  size : w.heap.size ≤ w'.heap.size
  block : ∀ k, k < w.heap.size → k ≠ D → k ≠ M → v.ownBlock ≠ some k → u.ownBlock ≠ some k → w'.heap[k]? = w.heap[k]?
theorem But4.of_below {D M : Nat} {v u : Value} {w w' : World} (h : Below w.heap.size w w') : But4 D M v u w w' := ⟨h.os, h.tape, h.output, h.size, fun k hk _ _ _ _ => h.block k hk⟩
theorem But4.of_d {D M : Nat} {v u : Value} {w w' : World} (h : But D w w') : But4 D M v u w w' := ⟨h.os, h.tape, h.output, h.size, fun k hk h1 _ _ _ => h.block k hk h1⟩
theorem But4.of_m {D M : Nat} {v u : Value} {w w' : World} (h : But M w w') : But4 D M v u w w' := ⟨h.os, h.tape, h.output, h.size, fun k hk _ h1 _ _ => h.block k hk h1⟩
theorem But4.trans {D M : Nat} {v u : Value} {a b c : World} (h : But4 D M v u a b) (k : But4 D M v u b c) : But4 D M v u a c :=
  ⟨k.os.trans h.os, k.tape.trans h.tape, k.output.trans h.output, Nat.le_trans h.size k.size, fun i hi h1 h2 h3 h4 => (k.block i (Nat.lt_of_lt_of_le hi h.size) h1 h2 h3 h4).trans (h.block i hi h1 h2 h3 h4)⟩
/-- how a call of both ends -/
def DuoEnd (D B M C : Nat) (v u : Value) (F : Nat → Nat) (N T : Nat) (E : Bool) (w : World) (e : Ending) (w' : World) : Prop := e = .returned (.bool true) ∧ Duo w' D B M C v u F N T E ∧ But4 D M v u w w'

section
variable {w : World} {D B M C : Nat} {v u : Value} {F : Nat → Nat} {N T : Nat} {E : Bool}
set_option maxRecDepth 100000 in
set_option maxHeartbeats 1000000 in
theorem one_place (h : Duo w D B M C v u F N T E) (oth : Bool) (po : Option Addr) (lo co : Nat) :
    Calls Tryd.prog 9 #[.pointer (some ⟨D, 0, none⟩), .pointer (some ⟨M, 0, none⟩), .agg #[.int .i64 6, .bool oth, .slice po lo co]] w fun e w' => e = .returned (.bool true) ∧ Below w.heap.size w w' := by
  have hTN := h.feed.taken
  have c1 := fun W (hb : Below w.heap.size w W) => feedPlace_abs (h.feed.below hb)
  have c2 := fun W (hb : Below w.heap.size w W) => ref4Place_any (h.ref.below hb) h.byte hTN h.big
  unfold plV at c2
  generalize Rn.plc F N T = P at *
  have c3 := fun W => place4_same T P.1 P.2.1 P.2.2 W
  clear h
  go_enter Tryd.func9, Tryd.ntmps9
  go_wp2_with fail
  refine (c1 _ ((Below.refl _ _).alloc (Nat.le_refl _) _)).mono ?_
  rintro e w1 ⟨rfl, hb1⟩
  have hB1 : Below w.heap.size w w1 := ((Below.refl _ _).alloc (Nat.le_refl _) _).trans (hb1.mono (by simp))
  have c2' := c2 _ hB1
  clear c1 c2 hb1
  go_wp2_with fail
  refine c2'.mono ?_
  rintro e w2 ⟨rfl, hb2⟩
  have hB2 := hB1.trans (hb2.mono hB1.size)
  clear c2' hb2 hB1
  go_wp2_with fail
  refine (c3 _).mono ?_
  rintro e w3 ⟨rfl, hb3⟩
  have hB3 := hB2.trans (hb3.mono hB2.size)
  clear c3 hb3 hB2
  go_wp2
  go_ret
  exact ⟨rfl, hB3⟩
theorem feedEnd_abs2 {p : Nat × Nat × Nat} (h : Feed w D B F N T true v p) :
    Calls Tryd.prog 13 #[.pointer (some ⟨D, 0, none⟩)] w fun e w' => e = .returned (.int .i64 5) ∧ w' = w := by
  obtain ⟨h0, d, n, k, wh, bad, h1, h2⟩ := h
  exact feedEnd_ended h1
set_option maxRecDepth 100000 in
set_option maxHeartbeats 1000000 in
theorem one_ended (h : Duo w D B M C v u F N T true) (oth : Bool) (po : Option Addr) (lo co : Nat) :
    Calls Tryd.prog 9 #[.pointer (some ⟨D, 0, none⟩), .pointer (some ⟨M, 0, none⟩), .agg #[.int .i64 2, .bool oth, .slice po lo co]] w fun e w' => e = .returned (.bool true) ∧ Below w.heap.size w w' := by
  have c1 := fun W (hb : Below w.heap.size w W) => feedEnd_abs2 (h.feed.below hb)
  have c2 := fun W (hb : Below w.heap.size w W) => ref4End_ended (h.ref.below hb)
  clear h
  go_enter Tryd.func9, Tryd.ntmps9
  go_wp2_with fail
  refine (c1 _ ((Below.refl _ _).alloc (Nat.le_refl _) _)).mono ?_
  rintro e w1 ⟨rfl, rfl⟩
  clear c1
  go_wp2_with fail
  refine (c2 _ ((Below.refl _ _).alloc (Nat.le_refl _) _)).mono ?_
  rintro e w2 ⟨rfl, rfl⟩
  clear c2
  go_wp2
  go_ret
  exact ⟨rfl, (Below.refl _ _).alloc (Nat.le_refl _) _⟩
set_option maxRecDepth 100000 in
set_option maxHeartbeats 1000000 in
theorem one_end (h : Duo w D B M C v u F N T false) (oth : Bool) (po : Option Addr) (lo co : Nat) :
    Calls Tryd.prog 9 #[.pointer (some ⟨D, 0, none⟩), .pointer (some ⟨M, 0, none⟩), .agg #[.int .i64 2, .bool oth, .slice po lo co]] w (DuoEnd D B M C v u F N T true w) := by
  have hb0 : Below w.heap.size w (w.alloc (.cells #[.int .i64 2, .bool oth, .slice po lo co] 31)) := (Below.refl _ _).alloc (Nat.le_refl _) _
  have c1 := feedEnd_abs (h.feed.below hb0)
  have H := hide' (And.intro h hb0)
  have hDl := h.feed.lt
  have hMl := h.ref.lt
  clear h hb0
  go_enter Tryd.func9, Tryd.ntmps9
  go_wp2_with fail
  refine c1.mono ?_
  rintro e w1 ⟨rfl, hf1, hbu1⟩
  have hs0 := H.out.2.size
  have hr1 : Ref4 w1 M C u F N T false := (H.out.1.ref.below H.out.2).keep (hbu1.block M (by omega) (Ne.symm H.out.1.ne)) (fun q hq => hbu1.block q (by have := (own_block_lt H.out.1.ref.2 hq).1; omega) (fun e => H.out.1.uD (by rw [hq, e])))
  have c2 := ref4End_any hr1
  have HF := hide' (And.intro hf1 hbu1)
  clear c1 hf1 hbu1 hr1
  go_wp2_with fail
  refine c2.mono ?_
  rintro e w2 ⟨rfl, hr2, hbu2⟩
  have hs1 := HF.out.2.size
  have hf2 := HF.out.1.keep (hbu2.block D (by omega) H.out.1.ne) (fun q hq => hbu2.block q (by have := (HF.out.1.row q hq).2; omega) (fun e => H.out.1.vM (by rw [hq, e])))
  have hd : Duo w2 D B M C v u F N T true := ⟨hf2, hr2, H.out.1.byte, H.out.1.run, (fun e => by cases e), H.out.1.ne, H.out.1.vM, H.out.1.uD, H.out.1.vu, H.out.1.big⟩
  have hb4 : But4 D M v u w w2 := ((But4.of_below H.out.2).trans (.of_d HF.out.2)).trans (.of_m hbu2)
  have HD := hide' (And.intro hd hb4)
  clear c2 hr2 hbu2 hf2 hd hb4
  go_wp2
  go_ret
  exact ⟨rfl, HD.out.1, HD.out.2⟩
end
end Go.Proofs.YtbfabpjhdhhpfaaDoor
/-
  THE WALK over gimletlaw04.one: Next.
-/
namespace Go.Proofs.YtbfabpjhdhhpfaaDoor
open Go.RowKit Go.Lib

namespace Fd
open Rn
theorem pk_told {F : Nat → Nat} {N T : Nat} {E : Bool} (h : (pk F N T E).2.2.2 = 0) : pk F N T true = pk F N T E := by
  cases E with
  | true => rfl
  | false => exact pk_stays' (by omega) (Nat.le_refl _) true
/-- what is taken, and its place, in the document's words -/
theorem duo_take {F : Nat → Nat} {N T : Nat} {E : Bool} (hF : ∀ j, F j < 256) (hr : Run F N 0 T) (hc : E = false → T = N → T = 0 ∨ F (T - 1) ≠ 13) :
    adv (pk F N T E) (plc F N T) = plc F N (T + (pk F N T E).2.2.1) ∧ Run F N 0 (T + (pk F N T E).2.2.1) ∧ (E = false → T + (pk F N T E).2.2.1 = N → T + (pk F N T E).2.2.1 = 0 ∨ F (T + (pk F N T E).2.2.1 - 1) ≠ 13) := by
  by_cases h0 : (pk F N T E).2.2.2 = 0
  · have ht := pk_told h0
    have hpa := plc_adv hF hr (by rw [ht]; exact h0)
    rw [ht] at hpa
    obtain ⟨x, hx⟩ : ∃ x, pk F N T E = x := ⟨_, rfl⟩
    obtain ⟨r, a, d, k⟩ := x
    rw [hx] at h0 hpa ⊢
    obtain rfl : k = 0 := h0
    have hp := pk_have hx
    exact ⟨hpa.symm, hr.trans hp.2.2.1, fun e1 e2 => .inr (hp.2.2.2.2.1 e1 e2)⟩
  · have hz := pk_no h0
    rw [hz, Nat.add_zero]
    refine ⟨?_, hr, hc⟩
    unfold adv
    rw [if_neg h0]
end Fd

section
variable {w : World} {D B M C : Nat} {v u : Value} {F : Nat → Nat} {N T : Nat} {E : Bool}
set_option maxRecDepth 100000 in
set_option maxHeartbeats 1000000 in
theorem one_next (h : Duo w D B M C v u F N T E) (hT : Lib.Utf8Tabs 0 1 w) (oth : Bool) (po : Option Addr) (lo co : Nat) :
    Calls Tryd.prog 9 #[.pointer (some ⟨D, 0, none⟩), .pointer (some ⟨M, 0, none⟩), .agg #[.int .i64 4, .bool oth, .slice po lo co]] w (DuoEnd D B M C v u F N (T + (Fd.pk F N T E).2.2.1) E w) := by
  have hb0 : Below w.heap.size w (w.alloc (.cells #[.int .i64 4, .bool oth, .slice po lo co] 31)) := (Below.refl _ _).alloc (Nat.le_refl _) _
  have hTN := h.feed.taken
  have c1 := feedNext_abs (tabs_below hT hb0 (Nat.le_refl _)) h.byte (h.feed.below hb0)
  obtain ⟨t1, t2, t3⟩ := Fd.duo_take h.byte h.run h.cr
  rw [t1] at c1
  have c2 := fun W (hr : Ref4 W M C u F N T E) => ref4Next_any hr h.byte hTN h.big
  obtain ⟨r, x0, x1, x2, x3, d, how, e1, e2, hr⟩ := pk_same (E := E) h.byte h.run
  rw [e1] at c1
  rw [e2] at c2
  generalize T + (Fd.pk F N T E).2.2.1 = T' at *
  have c3 := fun W => char4_same r x0 x1 x2 x3 d hr W
  have H := hide' (And.intro h hb0)
  have HT := hide' (And.intro t2 t3)
  have hDl := h.feed.lt
  have hMl := h.ref.lt
  clear h hb0 t1 t2 t3 e1 e2 hT hTN
  go_enter Tryd.func9, Tryd.ntmps9
  go_wp2_with fail
  refine c1.mono ?_
  rintro e w1 ⟨rfl, hf1, hbu1⟩
  have hs0 := H.out.2.size
  have hs1 := hbu1.size
  have hr1 : Ref4 w1 M C u F N T E := (H.out.1.ref.below H.out.2).keep (hbu1.block M (by omega) (Ne.symm H.out.1.ne)) (fun q hq => hbu1.block q (by have := (own_block_lt H.out.1.ref.2 hq).1; omega) (fun e => H.out.1.uD (by rw [hq, e])))
  have hbc : Below w1.heap.size w1 (w1.alloc (.cells #[.int .i32 r, .int .i64 x0, .int .i64 x1, .int .i64 x2, .int .i64 x3, .int .i64 d] 36)) := (Below.refl _ _).alloc (Nat.le_refl _) _
  have c2' := c2 _ (hr1.below hbc)
  have HF := hide' (And.intro (hf1.below hbc) ((But4.of_below H.out.2 (D := D) (M := M) (v := v) (u := u)).trans ((But4.of_d hbu1).trans (.of_below hbc))))
  clear c1 c2 hf1 hbu1 hr1 hbc
  go_wp2_with fail
  refine c2'.mono ?_
  rintro e w2 ⟨rfl, hr2, hbu2⟩
  have hs2 : (w1.alloc (.cells #[.int .i32 r, .int .i64 x0, .int .i64 x1, .int .i64 x2, .int .i64 x3, .int .i64 d] 36)).heap.size = w1.heap.size + 1 := by simp
  have hs3 := hbu2.size
  have hR : w2.heap[w1.heap.size]? = some (.cells #[.int .i32 r, .int .i64 x0, .int .i64 x1, .int .i64 x2, .int .i64 x3, .int .i64 d] 36 (0, 0)) := (hbu2.block w1.heap.size (by omega) (by omega)).trans (heap_top _ _ rfl)
  have hlt2 : w1.heap.size < w2.heap.size := by omega
  obtain ⟨z0, z1, z2, z3, z4, z5⟩ := keepC hR
  have hf2 := HF.out.1.keep (hbu2.block D (by omega) H.out.1.ne) (fun q hq => hbu2.block q (by have := (HF.out.1.row q hq).2; omega) (fun e => H.out.1.vM (by rw [hq, e])))
  have hd : Duo w2 D B M C v u F N T' E := ⟨hf2, hr2, H.out.1.byte, HT.out.1, HT.out.2, H.out.1.ne, H.out.1.vM, H.out.1.uD, H.out.1.vu, H.out.1.big⟩
  have hb4 : But4 D M v u w w2 := HF.out.2.trans (.of_m hbu2)
  have hbd : Below w2.heap.size w2 (w2.alloc (.cells #[.int .i64 r, .int .i64 x0, .int .i64 x1, .int .i64 x2, .int .i64 x3, .int .i64 d] 66)) := (Below.refl _ _).alloc (Nat.le_refl _) _
  have HD := hide' (And.intro hbd (And.intro hd hb4))
  clear c2' hr2 hbu2 hf2 hd hb4 hR hs2 hbd HF
  go_wp2_with fail
  refine (c3 _).mono ?_
  rintro e w3 ⟨rfl, hb3⟩
  have hB3 := HD.out.1.trans (hb3.mono HD.out.1.size)
  have HB3 := hide' hB3
  clear c3 hb3 hB3 z0 z1 z2 z3 z4 z5
  go_wp2
  go_ret
  exact ⟨rfl, HD.out.2.1.below HB3.out, HD.out.2.2.trans (.of_below HB3.out)⟩
end
end Go.Proofs.YtbfabpjhdhhpfaaDoor
/-
  A Feed's Rest, wherever it stands: what the document's Rest tells.
-/
namespace Go.Proofs.YtbfabpjhdhhpfaaDoor
open Go.RowKit Go.Lib

namespace Fd
open Rn
theorem pk_one {F : Nat → Nat} {N T : Nat} {E : Bool} (h : (pk F N T E).2.2.2 = 1) : pk F N T E = (0, 0, 0, 1) ∧ E = false := by
  revert h
  unfold pk
  repeat' split
  all_goals simp_all
theorem pk_three {F : Nat → Nat} {N T : Nat} : (pk F N T false).2.2.2 ≤ 2 := by
  unfold pk
  repeat' split
  all_goals simp_all
theorem Inv.nobad {F : Nat → Nat} {N T d n k wh : Nat} (h : Inv F N T false d n k wh false) : (Fd.pk F N T false).2.2.2 ≠ 2 := by
  intro hp
  obtain ⟨hw, hk⟩ := pk_wrong hp
  have hT := h.run.head hw
  obtain ⟨a1, a2⟩ := h.plain rfl
  unfold Fd.pk at hp
  rw [hw, if_neg Bool.false_ne_true] at hp
  by_cases h1 : N ≤ T
  · rw [if_pos h1] at hp
    simp at hp
  · rw [if_neg h1] at hp
    rcases a2 with a2 | a2
    · omega
    · rw [← hT] at a2
      rw [a2, if_pos rfl] at hp
      simp at hp
end Fd
theorem Inv_drain {F : Nat → Nat} {N : Nat} {E : Bool} {d n wh : Nat} {bad : Bool} : ∀ (m T k : Nat), N - T ≤ m → Fd.Inv F N T E d n k wh bad → ∃ k', Fd.Inv F N (stopAt F N E T) E d n k' wh bad
  | 0, T, k, hm, h => by
    have h0 : (Fd.pk F N T E).2.2.2 ≠ 0 := fun e => by have := Fd.pk_pos e; omega
    rw [stopAt_stop h0]
    exact ⟨k, h⟩
  | m + 1, T, k, hm, h => by
    by_cases h0 : (Fd.pk F N T E).2.2.2 = 0
    · have hp := Fd.pk_pos h0
      rw [stopAt_step h0]
      obtain ⟨x, hx⟩ : ∃ x, Fd.pk F N T E = x := ⟨_, rfl⟩
      obtain ⟨r, a, w, q⟩ := x
      rw [hx] at h0 hp ⊢
      obtain rfl : q = 0 := h0
      exact Inv_drain m (T + w) (k + w) (by have := hp.1; dsimp only at this; omega) (h.take hx)
    · rw [stopAt_stop h0]
      exact ⟨k, h⟩
theorem stopAt_no (F : Nat → Nat) (N : Nat) (E : Bool) (T : Nat) : (Fd.pk F N (stopAt F N E T) E).2.2.2 ≠ 0 := Fd.tkE_no F N E (N - T) T (0, 1, 1) (by omega)
/-- what a Feed's Rest answers -/
def RestG (F : Nat → Nat) (N : Nat) (E : Bool) (S : Nat) (w : World) (e : Ending) (w' : World) : Prop := ∃ u, e = .returned u ∧ (if (Fd.pk F N S E).2.2.2 = 1 then w'.ownsRow w.heap.size 5 1 u (N - S) (xs (Rn.off F S) (N - S)) else u = .slice none 0 0) ∧ Below w.heap.size w w'
theorem feedRest_gen {w : World} {D B : Nat} {v : Value} {F : Nat → Nat} {N T : Nat} {E : Bool} {p : Nat × Nat × Nat} (h : Feed w D B F N T E v p) :
    Calls Tryd.prog 14 #[.pointer (some ⟨D, 0, none⟩)] w (RestG F N E (stopAt F N E T) w) := by
  obtain ⟨h0, d, n, k, wh, bad, h1, h2⟩ := h
  obtain ⟨k', hI⟩ := Inv_drain (N - T) T k (Nat.le_refl _) h2
  have hno := stopAt_no F N E T
  generalize stopAt F N E T = S at *
  cases E with
  | true =>
    refine (feedRest_none h1 (.inl rfl)).mono ?_
    rintro e w' ⟨rfl, rfl⟩
    refine ⟨_, rfl, ?_, Below.refl _ _⟩
    rw [if_neg (Fd.pk_ended F N S)]
  | false =>
    cases bad with
    | true =>
      refine (feedRest_none h1 (.inr rfl)).mono ?_
      rintro e w' ⟨rfl, rfl⟩
      refine ⟨_, rfl, ?_, Below.refl _ _⟩
      rw [if_neg]
      intro q
      have := (hI.rest (Fd.pk_one q).1).1
      cases this
    | false =>
      have h9 := hI.nobad
      have h8 := Fd.pk_three (F := F) (N := N) (T := S)
      have hq : (Fd.pk F N S false).2.2.2 = 1 := by omega
      obtain ⟨-, h3, h4⟩ := hI.rest (Fd.pk_one hq).1
      have hl := h2.le
      have hli := hI.le
      have := feedRest_some h1 (by omega) (by omega)
      rw [Fd.off_off, h3, show n - Fd.rst (Rn.off F d) n wh = N - S by omega] at this
      refine this.mono ?_
      rintro e w' ⟨u, rfl, ho, hb⟩
      refine ⟨u, rfl, ?_, hb⟩
      rw [if_pos hq]
      exact ho
end Go.Proofs.YtbfabpjhdhhpfaaDoor
/-
  THE WALK over gimletlaw04.one: Rest.
-/
namespace Go.Proofs.YtbfabpjhdhhpfaaDoor
open Go.RowKit Go.Lib
/-- how many bytes the rest has, and which -/
def restN (F : Nat → Nat) (N : Nat) (E : Bool) (T : Nat) : Nat := if (Fd.pk F N (stopAt F N E T) E).2.2.2 = 1 then N - stopAt F N E T else 0
def restF (F : Nat → Nat) (N : Nat) (E : Bool) (T : Nat) : Nat → Nat := Rn.off F (stopAt F N E T)
theorem xs_zero (f : Nat → Nat) : xs f 0 = [] := rfl
section
variable {w : World} {D B M C : Nat} {v u : Value} {F : Nat → Nat} {N T : Nat} {E : Bool}
theorem feedRest_one {p : Nat × Nat × Nat} (h : Feed w D B F N T E v p) :
    Calls Tryd.prog 14 #[.pointer (some ⟨D, 0, none⟩)] w fun e w' => ∃ u, e = .returned u ∧ w'.ownsRow w.heap.size 5 1 u (restN F N E T) (xs (restF F N E T) (restN F N E T)) ∧ Below w.heap.size w w' := by
  refine (feedRest_gen h).mono ?_
  rintro e w' ⟨u, rfl, hu, hb⟩
  refine ⟨u, rfl, ?_, hb⟩
  unfold restN restF
  by_cases q : (Fd.pk F N (stopAt F N E T) E).2.2.2 = 1
  · rw [if_pos q] at hu ⊢
    exact hu
  · rw [if_neg q] at hu ⊢
    rw [hu]
    exact World.ownsRow_nil _ _ _ _
theorem ref4Rest_one {X0 : Nat} (hX0 : ∀ q, u.ownBlock = some q → q < X0) (h : Ref4 w M C u F N T E) (hF : ∀ j, F j < 256) (hTN : T ≤ N) (hbig : N ≤ 1099511627776) :
    Calls Tryd.prog 27 #[.pointer (some ⟨M, 0, none⟩)] w fun e w' => ∃ u, e = .returned u ∧ Holds w' X0 (restF F N E T) (restN F N E T) u ∧ Below w.heap.size w w' := by
  refine (ref4Rest_any hX0 h hF hTN hbig).mono ?_
  rintro e w' ⟨⟨u, rfl, hu⟩, hb⟩
  refine ⟨u, rfl, ?_, hb⟩
  unfold restN restF
  by_cases q : (Fd.pk F N (stopAt F N E T) E).2.2.2 = 1
  · rw [if_pos q] at hu ⊢
    exact hu
  · rw [if_neg q] at hu ⊢
    rw [hu]
    exact ⟨none, 0, rfl, Nat.le_refl _, fun h => absurd h (by omega)⟩
theorem Holds.keep {w w' : World} {X n : Nat} (h : Holds w X F n v) (hb : ∀ b, b < X → w'.heap[b]? = w.heap[b]?) : Holds w' X F n v := by
  obtain ⟨pa, cap, e, hc, hh⟩ := h
  refine ⟨pa, cap, e, hc, fun h0 => ?_⟩
  obtain ⟨b, o, e1, hby, hx⟩ := hh h0
  exact ⟨b, o, e1, fun j hj => (World.cell?_of_block (a := ⟨b, o + j, none⟩) (hb b hx)).trans (hby j hj), hx⟩
theorem Holds.below {w w' : World} {X n : Nat} (h : Holds w X F n v) (hb : Below w.heap.size w w') (hX : X ≤ w.heap.size) : Holds w' X F n v := h.keep fun b hx => hb.block b (by omega)
theorem Holds.of_row {n X : Nat} (h : w.ownsRow X 5 1 v n (xs F n)) : Holds w w.heap.size F n v := by
  rcases owns_row h with ⟨rfl, rfl⟩ | ⟨q, cap, rfl, h1, h2, h3, h4, h5⟩
  · exact ⟨none, 0, rfl, Nat.le_refl _, fun h => absurd h (by omega)⟩
  · exact ⟨_, cap, rfl, h3, fun _ => ⟨q, 0, rfl, h5, h2⟩⟩
end
end Go.Proofs.YtbfabpjhdhhpfaaDoor
/-
  THE WALK over gimletlaw04.one: Rest.
-/
namespace Go.Proofs.YtbfabpjhdhhpfaaDoor
open Go.RowKit Go.Lib
section
variable {w : World} {D B M C : Nat} {v u : Value} {F : Nat → Nat} {N T : Nat} {E : Bool}
theorem same_holds {f : Nat → Nat} {n : Nat} {a b : Value} (hn : n ≤ 9223372036854775807) {X Y : Nat} (ha : Holds w X f n a) (hb : Holds w Y f n b) : Calls Tryd.prog 20 #[a, b] w fun e w' => e = .returned (.bool true) ∧ Below w.heap.size w w' := by
  obtain ⟨pa, ca, rfl, _, h1⟩ := ha
  obtain ⟨pb, cb, rfl, _, h2⟩ := hb
  exact feedSame_true pa pb n ca cb f w hn (fun h => by obtain ⟨b, o, e, q, _⟩ := h1 h; exact ⟨b, o, e, q⟩) (fun h => by obtain ⟨b, o, e, q, _⟩ := h2 h; exact ⟨b, o, e, q⟩)
set_option maxRecDepth 100000 in
set_option maxHeartbeats 1000000 in
theorem one_rest (h : Duo w D B M C v u F N T E) (oth : Bool) (po : Option Addr) (lo co : Nat) :
    Calls Tryd.prog 9 #[.pointer (some ⟨D, 0, none⟩), .pointer (some ⟨M, 0, none⟩), .agg #[.int .i64 5, .bool oth, .slice po lo co]] w fun e w' => e = .returned (.bool true) ∧ Below w.heap.size w w' := by
  have hTN := h.feed.taken
  have hbig := h.big
  have c1 := fun W (hb : Below w.heap.size w W) => feedRest_one (h.feed.below hb)
  have c2 := fun W (hb : Below w.heap.size w W) => ref4Rest_one (X0 := w.heap.size) (fun q hq => (own_block_lt h.ref.2 hq).1) (h.ref.below hb) h.byte hTN h.big
  have hnN : restN F N E T ≤ N := by unfold restN; split <;> omega
  clear h hTN
  generalize restN F N E T = n at *
  generalize restF F N E T = g at *
  have hn63 : n ≤ 9223372036854775807 := by omega
  go_enter Tryd.func9, Tryd.ntmps9
  go_wp2_with fail
  refine (c1 _ ((Below.refl _ _).alloc (Nat.le_refl _) _)).mono ?_
  rintro e w1 ⟨r, rfl, hr, hb1⟩
  have hrl : ∀ k, r.ownBlock = some k → k < w1.heap.size := fun k hk => (own_block_lt hr hk).1
  have HRL := hide' hrl
  clear hrl
  have hB1 : Below w.heap.size w w1 := ((Below.refl _ _).alloc (Nat.le_refl _) _).trans (hb1.mono (by simp))
  have c1' := c1 _ hB1
  go_wp2_with fail
  refine c1'.mono ?_
  rintro e w2 ⟨s, rfl, hs, hb2⟩
  have hB2 := hB1.trans (hb2.mono hB1.size)
  have c2' := c2 _ hB2
  clear c1' c2
  go_wp2_with fail
  refine c2'.mono ?_
  rintro e w3 ⟨t, rfl, ht, hb3⟩
  have hB3 := hB2.trans (hb3.mono hB2.size)
  have hr3 := (hr.kept_below hb2).kept_below hb3
  have hs3 := hs.kept_below hb3
  have cS1 := same_holds hn63 (Holds.of_row hr3) ht
  have HX := hide' (And.intro hr3 (And.intro hs3 (And.intro ht hB3)))
  clear c2' hr hs hb1 hb2 hb3 hB1 hB2 hr3 hs3 ht hB3
  go_wp2_with fail
  refine cS1.mono ?_
  rintro e w4 ⟨rfl, hb4⟩
  obtain ⟨hr3, hs3, ht3, hB3⟩ := HX.out
  have hr4 := hr3.kept_below hb4
  have hs4 := hs3.kept_below hb4
  have ht4 := ht3.below hb4 hB3.size
  have hB4 := hB3.trans (hb4.mono hB3.size)
  have cS2 := same_holds hn63 (Holds.of_row hs4) ht4
  have HX4 := hide' (And.intro hr4 (And.intro hs4 (And.intro ht4 hB4)))
  clear cS1 HX hr3 hs3 ht3 hB3 hb4 hr4 hs4 ht4 hB4
  go_wp2_with fail
  refine cS2.mono ?_
  rintro e w5 ⟨rfl, hb5⟩
  obtain ⟨hr3, hs3, ht3, hB3⟩ := HX4.out
  have hr5 := hr3.kept_below hb5
  have hs5 := hs3.kept_below hb5
  have ht5 := ht3.below hb5 hB3.size
  have hB5 := hB3.trans (hb5.mono hB3.size)
  clear cS2 HX4 hr3 hs3 ht3 hB3 hb5
  have HX5 := hide' (And.intro hr5 (And.intro hs5 (And.intro ht5 hB5)))
  clear hr5 hs5 ht5 hB5
  obtain ⟨pr, capr, rfl⟩ : ∃ pr capr, r = .slice pr n capr := by
    rcases owns_row HX5.out.1 with ⟨e1, e2⟩ | ⟨q, cap, e1, _⟩
    · exact ⟨none, 0, by rw [e1, e2]⟩
    · exact ⟨_, _, e1⟩
  have hs0 : (w.alloc (.cells #[.int .i64 5, .bool oth, .slice po lo co] 31)).heap.size = w.heap.size + 1 := by simp
  rw [hs0] at HX5
  clear hs0
  have c1'' := c1
  clear c1
  go_wp2
  go_loopw [21] (fun i wr => ∃ (a : Nat) (ys : List Value), i = .int .i64 a ∧ a ≤ n ∧ wr.ownsRow (w.heap.size + 1) 5 1 (.slice pr n capr) n ys ∧ w5.grownBy wr (Value.slice pr n capr).ownBlock) (fun i _ => n - (RowKit.intOf i).toNat)
  case atStart => exact ⟨0, _, rfl, Nat.zero_le _, HX5.out.1, ⟨rfl, rfl, rfl, Nat.le_refl _, fun _ _ _ => rfl⟩⟩
  case round =>
    obtain ⟨a, ys, rfl, han, hown, hgr⟩ := hrel
    by_cases hlt : a < n
    · have g1 : (a : Int) < n := by omega
      obtain ⟨q, e1⟩ : ∃ q, pr = some ⟨q, 0, none⟩ := by
        rcases hown.2 with ⟨e1, e2⟩ | ⟨q, cap, cur, e1, _⟩
        · omega
        · cases e1; exact ⟨q, rfl⟩
      subst e1
      have hca := hown.cellAt a (by omega)
      have hyl : ys.length = n := by have := hown.1; omega
      obtain ⟨y, hy⟩ : ∃ y, ys[a]? = some y := ⟨ys[a]'(by omega), List.getElem?_eq_getElem _⟩
      rw [hy] at hca
      have hfz := hown.frozenAt a
      have hst := hown.stored a (.int .u8 89)
      have hgr2 : w5.grownBy (wr.setCell ⟨q, a, none⟩ (.int .u8 89)) (some q) := by
        have hb := (Below.refl 0 wr).setCell (p := ⟨q, a, none⟩) (Nat.zero_le _) (.int .u8 89)
        exact ⟨hb.os.trans hgr.os, hb.tape.trans hgr.tape, hb.output.trans hgr.output, Nat.le_trans hgr.size hb.size, fun k hk hn => (Below.heap_setCell wr ⟨q, a, none⟩ _ k (fun e => hn (by rw [e]))).trans (hgr.block k hk hn)⟩
      have HS := hide' (And.intro hst hgr2)
      clear hst hgr2 hown hgr hyl hy
      go_wp2
      go_roundw
      case rel => exact ⟨a + 1, _, by go_num, by omega, HS.out.1.1, HS.out.2⟩
      case measure => simp [RowKit.intOf]; omega
    · obtain rfl : a = n := by omega
      have g1 : ¬ (a : Int) < a := by omega
      obtain ⟨i0, hi, hz0, hz1, hz2⟩ := info_parts infoByte'
      have hownA : (wr.alloc (.cells #[.int .u8 90, .int .u8 90, .int .u8 90, .int .u8 90] 5)).ownsRow (w.heap.size + 1) 5 1 (.slice pr a capr) a ys := hown.alloc _
      have hz4 : ∀ j u, (xs (fun _ => 90) 4)[j]? = some u → (wr.alloc (.cells #[.int .u8 90, .int .u8 90, .int .u8 90, .int .u8 90] 5)).cell? ((⟨wr.heap.size, 0, none⟩ : Addr).add j) = some u := by
        intro j u hu
        obtain ⟨hj, rfl⟩ := xs_get _ _ _ _ hu
        rw [Addr.add_lit, Nat.zero_add, Lib.cell_of_heap (heap_top _ _ rfl)]
        rcases (show j = 0 ∨ j = 1 ∨ j = 2 ∨ j = 3 by omega) with rfl | rfl | rfl | rfl <;> rfl
      have hszA : w.heap.size ≤ wr.heap.size := by
        have := hgr.size
        have := HX5.out.2.2.2.size
        omega
      have HG := hide' (And.intro hgr hszA)
      clear hown hgr hszA
      go_wp2_with (at_builtin; refine wpList_append_own_at _ rfl _ _ 27 rfl (w.heap.size + 1) 5 i0 (.int .u8 0) 1 1 Tryd.underlying27 hi hz0 hz1 hz2 rfl (by decide) (.slice pr a capr) a ys rfl hownA ⟨wr.heap.size, 0, none⟩ 4 4 (xs (fun _ => 90) 4) rfl rfl hz4 (one_cell _ 4) ?b1 ?b2 ?b3 ?_)
      case b1 => unfold maxLen; omega
      case b2 => omega
      case b3 => exact HG.out.2
      intro v1 w6 hown6 hgrow6 hnn6 hat6
      obtain ⟨hr5, hs5, ht5, hB5⟩ := HX5.out
      obtain ⟨hgr, hsz⟩ := HG.out
      have hq1 : ∀ q, (Value.slice pr a capr).ownBlock = some q → w.heap.size < q ∧ q < w1.heap.size := fun q hq => ⟨(own_block_lt hr5 hq).2, HRL.out q hq⟩
      have hneS : s.ownBlock = none ∨ s.ownBlock ≠ (Value.slice pr a capr).ownBlock := by
        cases hso : s.ownBlock with
        | none => exact .inl rfl
        | some k =>
          right
          intro e
          have h1 := (own_block_lt hs5 hso).2
          have h2 := (hq1 k e.symm).2
          omega
      have hs6 := ((hs5.kept hgr hneS).alloc (.cells #[.int .u8 90, .int .u8 90, .int .u8 90, .int .u8 90] 5)).kept hgrow6 hneS
      have hblk : ∀ b, b < w.heap.size → w6.heap[b]? = w5.heap[b]? := fun b hb => by
        have hn : some b ≠ (Value.slice pr a capr).ownBlock := fun e => by have := (hq1 b e.symm).1; omega
        have h5 := hB5.size
        rw [hgrow6.block b (by simp; omega) hn, ((Below.refl _ wr).alloc (Nat.le_refl _) _).block b (by omega), hgr.block b (by omega) hn]
      have ht6 := ht5.keep hblk
      have hB6 : Below w.heap.size w w6 := ⟨hgrow6.os.trans (hgr.os.trans hB5.os), hgrow6.tape.trans (hgr.tape.trans hB5.tape), hgrow6.output.trans (hgr.output.trans hB5.output), by have := hgrow6.size; simp at this; omega, fun k hk => (hblk k hk).trans (hB5.block k hk)⟩
      obtain ⟨p1, cap1, rfl⟩ : ∃ p1 cap1, v1 = .slice p1 (a + 4) cap1 := by
        rcases hown6.2 with ⟨_, e2⟩ | ⟨q, cap, cur, e1, _⟩
        · omega
        · exact ⟨_, _, e1⟩
      have cS3 := same_holds hn63 (Holds.of_row hs6) ht6
      obtain ⟨pt, capt, rfl, hct, hht⟩ := ht6
      have HX6 := hide' (And.intro hs6 (And.intro (show Holds w6 w.heap.size g a (.slice pt a capt) from ⟨pt, capt, rfl, hct, hht⟩) hB6))
      have e4 : ((a : Int) + 4 == (a : Int) + 4) = true := by simp
      clear hr5 hs5 ht5 hB5 hgr hsz hq1 hneS hs6 hblk hB6 hown6 hgrow6 hnn6 hat6 HX5 HG hownA hz4 hht hct
      go_wp2_with fail
      refine cS3.mono ?_
      rintro e w7 ⟨rfl, hb7⟩
      have hB7 := HX6.out.2.2.trans (hb7.mono HX6.out.2.2.size)
      have ht7 := HX6.out.2.1.below hb7 HX6.out.2.2.size
      have cR := c1'' _ hB7
      have HX7 := hide' (And.intro ht7 hB7)
      clear cS3 HX6 hb7 hB7 ht7 c1''
      go_wp2_with fail
      refine cR.mono ?_
      rintro e w8 ⟨z, rfl, hz, hb8⟩
      have hB8 := HX7.out.2.trans (hb8.mono HX7.out.2.size)
      have ht8 := HX7.out.1.below hb8 HX7.out.2.size
      have cS4 := same_holds hn63 (Holds.of_row hz) ht8
      have HB8 := hide' hB8
      clear cR HX7 hb8 hB8 ht8 hz
      go_wp2_with fail
      refine cS4.mono ?_
      rintro e w9 ⟨rfl, hb9⟩
      have hB9 := HB8.out.trans (hb9.mono HB8.out.size)
      clear cS4 hb9
      go_wp2
      go_ret
      exact ⟨rfl, hB9⟩
end
end Go.Proofs.YtbfabpjhdhhpfaaDoor
/-
  THE WALK over gimletlaw04.one: no call.
-/
namespace Go.Proofs.YtbfabpjhdhhpfaaDoor
open Go.RowKit Go.Lib
set_option maxRecDepth 100000 in
set_option maxHeartbeats 1000000 in
theorem one_none (D M : Nat) (w : World) (kd : Int) (hk : kd < 1 ∨ 6 < kd) (oth : Bool) (po : Option Addr) (lo co : Nat) :
    Calls Tryd.prog 9 #[.pointer (some ⟨D, 0, none⟩), .pointer (some ⟨M, 0, none⟩), .agg #[.int .i64 kd, .bool oth, .slice po lo co]] w fun e w' => e = .returned (.bool true) ∧ Below w.heap.size w w' := by
  have e1 : (kd == 1) = false := by simp; omega
  have e2 : (kd == 2) = false := by simp; omega
  have e3 : (kd == 3) = false := by simp; omega
  have e4 : (kd == 4) = false := by simp; omega
  have e5 : (kd == 5) = false := by simp; omega
  have e6 : (kd == 6) = false := by simp; omega
  clear hk
  go_enter Tryd.func9, Tryd.ntmps9
  go_wp2
  go_ret
  exact ⟨rfl, (Below.refl _ _).alloc (Nat.le_refl _) _⟩
end Go.Proofs.YtbfabpjhdhhpfaaDoor
/-
  THE WALK over gimletlaw04.one: Push.
-/
namespace Go.Proofs.YtbfabpjhdhhpfaaDoor
open Go.RowKit Go.Lib
/-- the bytes that came, and those behind them -/
def glue (F f : Nat → Nat) (N : Nat) : Nat → Nat := fun j => if j < N then F j else f (j - N)
/-- append of a slice that came in, nil or not -/
theorem wpList_append_opt {P : Program} {w : World} {ops : Array Oper} {rest : List Oper} {o : Oper} {a : Act} {Q : Exit → Act → World → Prop} (hgd : o.guard = none) (s x : Operand) (t : TypeId)
    (ho : o.op = .call { callee := .builtin .append, args := #[s, x], argTypes := #[t, t] })
    (base : Nat) (e : TypeId) (i : TypeInfo) (z : Value) (size bytes : Nat) (ht : P.underlying t = some (.slice e)) (hi : P.info? e = some i) (hz : i.zero = some z)
    (hsize : i.size = size) (hby : i.bytes = bytes) (hzs : z.cells.size = size) (hsz : 0 < size)
    (v : Value) (n : Nat) (ys : List Value) (hs : a.eval s = v) (hown : w.ownsRow base e size v n ys)
    (po : Option Addr) (m c : Nat) (hpo : po = none → m = 0 ∧ c = 0) (news : List Value) (hx : a.eval x = .slice po m c) (hl : news.length = m * size) (hnews : ∀ ad, po = some ad → ∀ j u, news[j]? = some u → w.cell? (ad.add j) = some u) (h1 : ∀ u ∈ news, u.oneCell' = true)
    (h63 : n + m ≤ maxLen) (hbytes : (n + m) * bytes ≤ 140737488355328) (hbase : base ≤ w.heap.size)
    (h : ∀ v' w', w'.ownsRow base e size v' (n + m) (ys ++ news) → w.grownBy w' v.ownBlock → wpList P ops Q rest (a.put o.dst v') w') :
    wpList P ops Q (o :: rest) a w := by
  cases po with
  | some ad => exact wpList_append_own_at _ hgd s x t ho base e i z size bytes ht hi hz hsize hby hzs hsz v n ys hs hown ad m c news hx hl (hnews ad rfl) h1 h63 hbytes hbase (fun v' w' a b _ _ => h v' w' a b)
  | none =>
    obtain ⟨rfl, rfl⟩ := hpo rfl
    obtain rfl : news = [] := List.eq_nil_of_length_eq_zero (by rw [hl]; omega)
    refine wpList_append_own_none hgd s x t ho base e i size ht hi v n ys hs hown hx ?_
    exact h v w (by rw [List.append_nil]; exact hown) ⟨rfl, rfl, rfl, Nat.le_refl _, fun _ _ _ => rfl⟩
/-- the document's Push of a slice that came in, nil or not -/
theorem ref4Push_opt {w : World} {D B : Nat} {v : Value} {F : Nat → Nat} {N T : Nat} {G f : Nat → Nat} (h : Ref4 w D B v F N T false) (hBw : B ≤ w.heap.size) (po : Option Addr) (m c : Nat) (hpo : po = none → m = 0 ∧ c = 0) (hG1 : ∀ j, j < N → G j = F j) (hG2 : ∀ j, j < m → G (N + j) = f j) (hc : ∀ ad, po = some ad → ∀ j u, (xs f m)[j]? = some u → w.cell? (ad.add j) = some u) (hlen : N + m ≤ 140737488355328) :
    Calls Tryd.prog 22 #[.pointer (some ⟨D, 0, none⟩), .slice po m c] w fun e w' => e = .returned (.int .i64 0) ∧ ∃ v', Ref4 w' D B v' G (N + m) T false ∧ (v'.ownBlock = v.ownBlock ∨ ∃ X, w.heap.size ≤ X ∧ v'.ownBlock = some X) ∧ ButF D v w w' := by
  cases po with
  | some ad =>
    refine (ref4Push_any h hBw ad m c hG1 hG2 (hc ad rfl) hlen).mono ?_
    rintro e w' ⟨rfl, v', h1, h2, h3⟩
    exact ⟨rfl, v', h1, h2.imp id (fun e => ⟨_, Nat.le_refl _, e⟩), h3⟩
  | none =>
    obtain ⟨rfl, rfl⟩ := hpo rfl
    refine (ref4Push_nil h).mono ?_
    rintro e w' ⟨rfl, h1, h2⟩
    refine ⟨rfl, v, ⟨h1.1, ?_⟩, .inl rfl, .of_but h2⟩
    have e := xs_join F f G N 0 hG1 hG2
    rw [show xs f 0 = [] from rfl, List.append_nil] at e
    rw [← e]
    exact h1.2
end Go.Proofs.YtbfabpjhdhhpfaaDoor
/-
  THE WALK over gimletlaw04.one: Push.
-/
namespace Go.Proofs.YtbfabpjhdhhpfaaDoor
open Go.RowKit Go.Lib
/-- how a call of both ends, whichever it is -/
def OneEnd (D B M C : Nat) (v u : Value) (N lo : Nat) (w : World) (e : Ending) (w' : World) : Prop := e = .returned (.bool true) ∧ ∃ v' u' F' N' T' E', Duo w' D B M C v' u' F' N' T' E' ∧ N' ≤ N + lo ∧ (∀ q, v'.ownBlock = some q → v.ownBlock = some q ∨ w.heap.size ≤ q) ∧ (∀ q, u'.ownBlock = some q → u.ownBlock = some q ∨ w.heap.size ≤ q) ∧ But4 D M v u w w'
section
variable {w : World} {D B M C : Nat} {v u : Value} {F : Nat → Nat} {N T : Nat} {E : Bool}
/-- both Pushes, ended or not -/
theorem push_both (h : Duo w D B M C v u F N T E) (hT : Lib.Utf8Tabs 0 1 w) (po : Option Addr) (lo co : Nat) (f : Nat → Nat) (hf : ∀ j, f j < 256) (hpo : po = none → lo = 0 ∧ co = 0) (hlen : N + lo ≤ 1099511627776) (hBB : 0 < B ∧ 1 < B) (hBD : B ≤ D) :
    ∃ (G : Nat → Nat) (N' r : Nat), (∀ j, G j < 256) ∧ N' ≤ N + lo ∧ r ≤ 5 ∧ Fd.Run G N' 0 T ∧ (E = false → T = N' → T = 0 ∨ G (T - 1) ≠ 13) ∧
      (∀ W, Below w.heap.size w W → ∀ q cap, (∀ j u, (xs f lo)[j]? = some u → W.cell? ((⟨q, 0, none⟩ : Addr).add j) = some u) → q ≠ D → v.ownBlock ≠ some q →
        Calls Tryd.prog 12 #[.pointer (some ⟨D, 0, none⟩), .slice (some ⟨q, 0, none⟩) lo cap] W fun e w' => e = .returned (.int .i64 r) ∧ ∃ v', Feed w' D B G N' T E v' (Rn.plc G N' T) ∧ (v'.ownBlock = v.ownBlock ∨ ∃ X, W.heap.size ≤ X ∧ v'.ownBlock = some X) ∧ ButF D v W w') ∧
      (∀ W, Ref4 W M C u F N T E → C ≤ W.heap.size → (∀ ad, po = some ad → ∀ j u, (xs f lo)[j]? = some u → W.cell? (ad.add j) = some u) →
        Calls Tryd.prog 22 #[.pointer (some ⟨M, 0, none⟩), .slice po lo co] W fun e w' => e = .returned (.int .i64 r) ∧ ∃ u', Ref4 w' M C u' G N' T E ∧ (u'.ownBlock = u.ownBlock ∨ ∃ X, W.heap.size ≤ X ∧ u'.ownBlock = some X) ∧ ButF M u W w') := by
  have hTN := h.feed.taken
  cases E with
  | true =>
    refine ⟨F, N, 5, h.byte, Nat.le_add_right _ _, Nat.le_refl _, h.run, (fun e => by cases e), ?_, ?_⟩
    · intro W hb q cap _ _ _
      have h2 := h.feed.below hb
      obtain ⟨h0, d, n, k, wh, bad, h1, _⟩ := h2
      refine (push_ended h1 _).mono ?_
      rintro e w' ⟨rfl, rfl⟩
      exact ⟨rfl, v, h.feed.below hb, .inl rfl, .refl _ _ _⟩
    · intro W hr _ _
      refine (ref4Push_ended hr _).mono ?_
      rintro e w' ⟨rfl, rfl⟩
      exact ⟨rfl, u, hr, .inl rfl, .refl _ _ _⟩
  | false =>
    have hgl : ∀ j, glue F f N j < 256 := fun j => by unfold glue; split; exact h.byte _; exact hf _
    have hg1 : ∀ j, j < N → F j = glue F f N j := fun j hj => by unfold glue; rw [if_pos hj]
    have hg2 : ∀ j, j < lo → glue F f N (N + j) = f j := fun j hj => by unfold glue; rw [if_neg (by omega), show N + j - N = j by omega]
    have hpl := Fd.plc_grow (N' := N + lo) h.byte hgl hg1 (Nat.le_add_right _ _) h.run (h.cr rfl)
    refine ⟨glue F f N, N + lo, 0, hgl, Nat.le_refl _, Nat.zero_le _, (h.run.congr hg1).up (Nat.le_add_right _ _), fun _ e => ?_, ?_, ?_⟩
    · rcases h.cr rfl (by omega) with c | c
      · exact .inl c
      · by_cases h0 : T = 0
        · exact .inl h0
        · refine .inr ?_
          rw [← hg1 _ (by omega)]
          exact c
    · intro W hb q cap hc hq hv
      rw [hpl]
      exact feedPush_abs (h.feed.below hb) (tabs_below hT hb (Nat.le_refl _)) hBB hBD ⟨q, 0, none⟩ lo cap f hgl hg1 hg2 hc ⟨hq, hv⟩ (by omega)
    · intro W hr hC hc
      exact ref4Push_opt hr hC po lo co hpo (fun j hj => (hg1 j hj).symm) hg2 hc (by omega)
end
end Go.Proofs.YtbfabpjhdhhpfaaDoor
