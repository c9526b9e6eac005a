/-
  THE WALK over refs.Plain.
-/
import Derived.Test.YtbbbokkfhfmoeaaDoorRfRefRead
import Derived.Test.YtbbbokkfhfmoeaaDoorRfShelf
import Derived.Test.YtbbbokkfhfmoeaaDoorRfBldQ
import Derived.Test.YtbbbokkfhfmoeaaDoorChName
import Derived.Test.YtbbbokkfhfmoeaaDoorRfLawNum
namespace Go.Proofs.YtbbbokkfhfmoeaaDoor
open Go.RowKit Go.Lib

namespace Rf
/-- a text with its references turned, from a place on; what came so far ahead -/
def pa : Nat → List UInt8 → List UInt8 → Option (List UInt8)
  | 0, _, acc => some acc
  | _ + 1, [], acc => some acc
  | k + 1, x :: r, acc => if x = 38 then (if (rd (lfn (x :: r)) (x :: r).length).2.2 = 0 then pa k ((x :: r).drop (rd (lfn (x :: r)) (x :: r).length).2.1) (acc ++ Lib.encodeRune (rd (lfn (x :: r)) (x :: r).length).1) else none) else pa k r (acc ++ [x])
/-- is it characters all through, and allowed ones? -/
def tx5 (l : List UInt8) : Bool := Ch.allFrom (lfn l) l.length 0 l.length 0 0 && Ch.valid (lfn l) l.length
def plV (o : Option (List UInt8)) : Value := match o with
  | some l => .tuple #[.string ⟨l.toArray⟩, .int .i64 0]
  | none => .tuple #[.string ⟨#[]⟩, .int .i64 6]
/-- what Plain answers -/
def pln (l : List UInt8) : Option (List UInt8) := if tx5 l = true ∧ 60 ∉ l then pa (l.length + 1) l [] else none
theorem lfn_drop (l : List UInt8) (o j : Nat) : lfn (l.drop o) j = lfn l (o + j) := by
  unfold lfn
  rw [List.getElem?_drop]
/-- a whole reference has four bytes and more -/
theorem rd_four {f : Nat → Nat} (hf : ∀ j, f j < 256) {n : Nat} (h : (rd f n).2.2 = 0) : 4 ≤ (rd f n).2.1 := by
  have hc := rd_cutH h
  obtain ⟨k, hk⟩ : ∃ k, (rd f n).2.1 = k := ⟨_, rfl⟩
  rw [hk] at hc ⊢
  have hok : okR (fst f k) := by
    unfold okR
    rw [fst_rd hf, fst_len, hc]
    exact ⟨h, hk⟩
  rcases okR_cases hok with ⟨e, he, q⟩ | q
  · have h9 := congrArg List.length q
    rw [fst_len, whl_len] at h9
    have : 2 ≤ e.1.length := by
      simp only [nmT, List.mem_cons, List.not_mem_nil, or_false] at he
      rcases he with rfl | rfl | rfl | rfl | rfl <;> decide
    omega
  · have := q.1
    rw [fst_len] at this
    exact this
end Rf
theorem contains60 (l : List UInt8) : decide (0 ≤ Lib.indexByte l 60) = decide (60 ∈ l) := by
  have h : ∀ l : List UInt8, (0 ≤ Lib.indexByte l 60 ↔ 60 ∈ l) := by
    intro l
    induction l with
    | nil => simp [Lib.indexByte]
    | cons a l ih =>
      have hge := Lib.indexByte_ge l 60
      unfold Lib.indexByte
      by_cases q : a = 60
      · subst q; simp
      · rw [if_neg (by simpa using q)]
        by_cases p : Lib.indexByte l 60 = -1
        · rw [if_pos (by simp [p])]
          have : 60 ∉ l := fun m => by have := ih.2 m; omega
          simp [this, Ne.symm q]
        · rw [if_neg (by simpa using p)]
          have h9 : 60 ∈ l := ih.1 (by omega)
          simp only [List.mem_cons, h9, or_true, iff_true]
          omega
  rw [decide_eq_decide]
  exact h l

/-- a slice's length -/
def slLen : Value → Nat
  | .slice _ m _ => m
  | _ => 0
theorem encLe (r : Int) : (Lib.encodeRune r).length ≤ 4 := by
  have := (Lib.encodeRuneZ_length r).2
  unfold Lib.encodeRune
  rw [List.length_map]
  exact this

set_option maxRecDepth 100000 in
set_option maxHeartbeats 1000000 in
theorem plain_any (l : List UInt8) (w : World) (hS : Spans w) (hT : Lib.Utf8Tabs 1 2 w) (hl : l.length ≤ 140737488351232) :
    Calls Tryd.prog 16 #[.string ⟨l.toArray⟩] w fun e w' => e = .returned (Rf.plV (Rf.pln l)) ∧ Below w.heap.size w w' := by
  have cT := texts_any (Rf.lfn l) l.length w (Rf.lfn_lt l) (by omega) hS hT
  rw [arr_lfn, show (Ch.allFrom (Rf.lfn l) l.length 0 l.length 0 0 && Ch.valid (Rf.lfn l) l.length) = Rf.tx5 l from rfl] at cT
  have cC := fun W => Tryd.strings_Contains_one ⟨l.toArray⟩ 60 W
  simp only [contains60] at cC
  have HS := hide' hS
  clear hS hT
  cases htx : Rf.tx5 l
  · have hp : Rf.pln l = none := by unfold Rf.pln; rw [if_neg (by rw [htx]; simp)]
    rw [htx] at cT
    rw [hp]
    clear hp htx
    go_enter Tryd.func16, Tryd.ntmps16
    go_wp2_with fail
    refine cT.mono ?_
    rintro e w1 ⟨rfl, hb1⟩
    clear cT
    go_wp2
    refine bodyPost_ret (v := Rf.plV none) (by simp [Rf.plV, results, Tryd.results16, go_sem]) rfl ⟨rfl, hb1⟩
  · rw [htx] at cT
    by_cases h60 : 60 ∈ l
    · have hp : Rf.pln l = none := by unfold Rf.pln; rw [if_neg (fun q => q.2 h60)]
      rw [hp]
      simp only [h60, decide_true] at cC
      clear hp htx h60
      go_enter Tryd.func16, Tryd.ntmps16
      go_wp2_with fail
      refine cT.mono ?_
      rintro e w1 ⟨rfl, hb1⟩
      have cC1 := cC w1
      clear cT cC
      go_wp2_with fail
      refine cC1.mono ?_
      rintro e w2 ⟨rfl, rfl⟩
      clear cC1
      go_wp2
      refine bodyPost_ret (v := Rf.plV none) (by simp [Rf.plV, results, Tryd.results16, go_sem]) rfl ⟨rfl, hb1⟩
    · have hp : Rf.pln l = Rf.pa (l.length + 1) l [] := by unfold Rf.pln; rw [if_pos ⟨htx, h60⟩]
      rw [hp]
      simp only [h60, decide_false] at cC
      obtain ⟨n, hn⟩ : ∃ n, l.length = n := ⟨_, rfl⟩
      obtain ⟨R, hR⟩ : ∃ R, Rf.pa (l.length + 1) l [] = R := ⟨_, rfl⟩
      rw [hR]
      have HR := hide' hR
      clear hp htx h60 hR
      go_enter Tryd.func16, Tryd.ntmps16
      go_wp2_with fail
      refine cT.mono ?_
      rintro e w1 ⟨rfl, hb1⟩
      have cC1 := cC w1
      clear cT cC
      go_wp2_with fail
      refine cC1.mono ?_
      rintro e w2 ⟨rfl, rfl⟩
      clear cC1
      obtain ⟨cap, W, hrun, hc1, hc2, hby, hbw, hsw⟩ := rfConv l (w2.alloc (.cells #[.pointer none, .slice none 0 0] 53)) (by omega)
      have hsz : (w2.alloc (.cells #[.pointer none, .slice none 0 0] 53)).heap.size = w2.heap.size + 1 := by simp
      rw [hsz] at hrun hby hbw hsw
      unfold maxLen at hc2
      have hbd : BdQ w2.heap.size (w2.heap.size + 2) (Lib.byteCells []) W := by
        refine ⟨by omega, by omega, .pointer none, .slice none 0 0, .inl rfl, ?_, ⟨rfl, .inl ⟨rfl, rfl⟩⟩⟩
        rw [hbw.block w2.heap.size (by omega)]
        show (w2.heap.push _)[w2.heap.size]? = _
        simp
      have hB5 : Below w.heap.size w W := (hb1.alloc hb1.size _).trans (hbw.mono (by have := hb1.size; omega))
      have hblk : ∃ c, W.heap[w2.heap.size + 1]? = some c := ⟨W.heap[w2.heap.size + 1]'(by omega), Array.getElem?_eq_getElem _⟩
      rw [hn] at hrun hby hc1
      have HBY := hide' hby
      have HBD := hide' hbd
      have HB5 := hide' hB5
      have hs1 := hb1.size
      clear hby hbd hB5 hbw hblk hb1 hsz
      obtain ⟨D, hD⟩ : ∃ D, w2.heap.size = D := ⟨_, rfl⟩
      rw [hD] at HBY HBD hs1 hrun hsw
      have hsW : D + 2 ≤ W.heap.size := by omega
      have hKB : ∀ wr, KQ D (D + 2) W wr → Below w.heap.size w wr := fun wr hK => ⟨hK.os.trans HB5.out.os, hK.tape.trans HB5.out.tape, hK.output.trans HB5.out.output, Nat.le_trans HB5.out.size hK.size, fun k hk => (hK.block k (by omega) (by omega)).trans (HB5.out.block k hk)⟩
      have hcells : ∀ wr, KQ D (D + 2) W wr → ∀ o, Bytes wr (D + 1) o (n - o) (Rf.lfn (l.drop o)) := fun wr hK o j hj => by
        have h1 := HBY.out (o + j) (by omega)
        rw [Nat.zero_add] at h1
        rw [Rf.lfn_drop]
        exact (World.cell?_of_block (a := ⟨D + 1, o + j, none⟩) (hK.block (D + 1) (by omega) (by omega))).trans h1
      have HKB := hide' hKB
      have HCE := hide' hcells
      clear hKB hcells HBY
      go_wp2
      clear hD
      go_loopw [5] (fun rest wr => ∃ (o k c : Nat) (acc : List UInt8) (p : Option Addr), rest = .slice p (n - o) c ∧ o ≤ n ∧ (o < n → p = some ⟨D + 1, o, none⟩ ∧ c = cap - o) ∧ Hid (n - o < k ∧ Rf.pa k (l.drop o) acc = R) ∧ acc.length ≤ o ∧ BdQ D (D + 2) (Lib.byteCells acc) wr ∧ KQ D (D + 2) W wr) (fun rest _ => slLen rest)
      case atStart => exact ⟨0, n + 1, cap, [], _, rfl, Nat.zero_le _, fun _ => ⟨rfl, rfl⟩, ⟨by omega, by rw [← hn]; exact HR.out⟩, Nat.le_refl _, HBD.out, KQ.refl _ _ _⟩
      case round =>
        obtain ⟨o, k, c, acc, p, rfl, hon, hpc, hpa, hacc, hbd, hK⟩ := hrel
        clear HBD HR
        have hBw := HKB.out wr hK
        by_cases hlt : o < n
        · obtain ⟨rfl, rfl⟩ := hpc hlt
          have hol : o < l.length := by omega
          obtain ⟨x, hx⟩ : ∃ x, l[o]'hol = x := ⟨_, rfl⟩
          have hby := HCE.out wr hK o
          have hx0 := hby 0 (by omega)
          rw [Rf.lfn_drop, Rf.lfn_get l (o + 0) (by omega)] at hx0
          simp only [Nat.add_zero, hx] at hx0
          obtain ⟨k', rfl⟩ : ∃ k', k = k' + 1 := ⟨k - 1, by have := hpa.out.1; omega⟩
          have hdr : l.drop o = x :: l.drop (o + 1) := by rw [List.drop_eq_getElem_cons hol, hx]
          have hstep := hpa.out.2
          rw [hdr] at hstep
          unfold Rf.pa at hstep
          rw [← hdr] at hstep
          have hdl : (l.drop o).length = n - o := by rw [List.length_drop]; omega
          rw [hdl] at hstep
          have hko := hpa.out.1
          have g1 : (0 : Int) < ((n - o : Nat) : Int) := by omega
          have hno : 0 < n - o := by omega
          by_cases h38 : x = 38
          · rw [if_pos h38] at hstep
            have cR := rfRead_any (Rf.lfn (l.drop o)) (some ⟨D + 1, o, none⟩) (n - o) (cap - o) wr (HS.out.below hBw (Nat.le_refl _)) (Rf.lfn_lt _) (by omega) (fun _ => ⟨D + 1, o, rfl, hby, by have := hK.size; omega⟩)
            have hfine := Rf.rd_fine (Rf.lfn (l.drop o)) (n - o)
            have h4 := Rf.rd_four (Rf.lfn_lt (l.drop o)) (n := n - o)
            obtain ⟨X, hX⟩ : ∃ X, Rf.rd (Rf.lfn (l.drop o)) (n - o) = X := ⟨_, rfl⟩
            rw [hX] at cR hfine h4 hstep
            obtain ⟨x1, x2, x3⟩ := X
            dsimp only at h4 hstep
            unfold Rf.rdV at cR
            dsimp only at cR
            have e38 : ((x.toNat : Int) != 38) = false := by rw [h38]; decide
            have HBD2 := hide' hbd
            have HK2 := hide' hK
            clear hby hdr hpa hX h38 hx hdl
            go_wp2_with fail
            refine cR.mono ?_
            rintro e w3 ⟨rfl, hb3⟩
            have hK3 : KQ D (D + 2) W w3 := HK2.out.trans (KQ.of_below hb3 (by have := HK2.out.size; omega))
            have hbd3 := HBD2.out.below hb3
            clear cR hbd hK HBD2 HK2 hb3
            by_cases h0 : x3 = 0
            · have hx4 := h4 h0
              have hfx : x2 ≤ n - o ∧ x1 ≤ 1114111 := by
                rcases hfine with q | q | q
                · cases q; cases h0
                · have := q.1; dsimp only at this; omega
                · exact ⟨q.2.1, q.2.2⟩
              rw [if_pos h0] at hstep
              have e0 : ((x3 : Int) != 0) = false := by simp; omega
              have cW := writeRune_q (x1 : Int) (by omega) (by omega) hbd3 (by rw [Lib.byteCells_length]; omega)
              rw [← Lib.byteCells_encodeRune, ← Lib.byteCells_append] at cW
              have hel := encLe (x1 : Int)
              have hst2 : Rf.pa k' (l.drop (o + x2)) (acc ++ Lib.encodeRune (x1 : Int)) = R := by rw [← hstep, List.drop_drop]
              have HST := hide' hst2
              have HK3 := hide' hK3
              have s1 : (0 : Int) ≤ (x2 : Int) := by omega
              have s2 : (x2 : Int) ≤ ((n - o : Nat) : Int) := by omega
              have s3 : ((n - o : Nat) : Int) ≤ ((cap - o : Nat) : Int) := by omega
              clear hstep hst2 h0 h4 hfine hK3 hbd3
              go_wp2_with fail
              refine cW.mono ?_
              rintro e w4 ⟨rfl, hbd4, hk4⟩
              have HBD4 := hide' hbd4
              have HK4 := hide' (HK3.out.trans hk4)
              clear cW hbd4 hk4
              by_cases hcc : cap - o = x2
              · go_wp2
                exact ⟨⟨o + x2, k', 0, acc ++ Lib.encodeRune (x1 : Int), _, by rw [Nat.sub_sub], by omega, fun h => absurd h (by omega), ⟨by omega, HST.out⟩, by rw [List.length_append]; omega, HBD4.out, HK4.out⟩, by show n - o - x2 < n - o; omega⟩
              · go_wp2
                exact ⟨⟨o + x2, k', cap - o - x2, acc ++ Lib.encodeRune (x1 : Int), _, by rw [Nat.sub_sub], by omega, fun h => ⟨rfl, by omega⟩, ⟨by omega, HST.out⟩, by rw [List.length_append]; omega, HBD4.out, HK4.out⟩, by show n - o - x2 < n - o; omega⟩
            · rw [if_neg h0] at hstep
              have e0 : ((x3 : Int) != 0) = true := by simp; omega
              have hfin := HKB.out w3 hK3
              have HF := hide' hfin
              have HST := hide' hstep
              clear h0 h4 hfine hbd3 hK3 hstep hfin
              go_wp2
              refine bodyPost_ret (v := Rf.plV none) (by simp [Rf.plV, results, Tryd.results16, go_sem]) rfl ⟨by rw [HST.out], HF.out⟩
          · rw [if_neg h38] at hstep
            have e38 : ((x.toNat : Int) != 38) = true := by
              simp only [bne_iff_ne, ne_eq]
              intro e
              exact h38 (UInt8.toNat_inj.1 (show x.toNat = 38 by omega))
            have cW := writeByte_q (x.toNat : Int) hbd (by rw [Lib.byteCells_length]; omega)
            rw [show [Value.int .u8 (x.toNat : Int)] = Lib.byteCells [x] from rfl, ← Lib.byteCells_append] at cW
            have HST := hide' hstep
            have HK2 := hide' hK
            have s3 : ((n - o : Nat) : Int) ≤ ((cap - o : Nat) : Int) := by omega
            have s2 : (1 : Int) ≤ ((n - o : Nat) : Int) := by omega
            clear hstep hby hdr hpa h38 hx hdl hbd hK
            go_wp2_with fail
            refine cW.mono ?_
            rintro e w4 ⟨rfl, hbd4, hk4⟩
            have HBD4 := hide' hbd4
            have HK4 := hide' (HK2.out.trans hk4)
            clear cW hbd4 hk4
            by_cases hcc : cap - o = 1
            · go_wp2
              exact ⟨⟨o + 1, k', 0, acc ++ [x], _, by rw [Nat.sub_sub], by omega, fun h => absurd h (by omega), ⟨by omega, HST.out⟩, by rw [List.length_append]; simp only [List.length_cons, List.length_nil]; omega, HBD4.out, HK4.out⟩, by show n - o - 1 < n - o; omega⟩
            · go_wp2
              exact ⟨⟨o + 1, k', cap - o - 1, acc ++ [x], _, by rw [Nat.sub_sub], by omega, fun h => ⟨rfl, by omega⟩, ⟨by omega, HST.out⟩, by rw [List.length_append]; simp only [List.length_cons, List.length_nil]; omega, HBD4.out, HK4.out⟩, by show n - o - 1 < n - o; omega⟩
        · obtain rfl : o = n := by omega
          have hfin : R = some acc := by
            obtain ⟨q1, q2⟩ := hpa.out
            rw [List.drop_eq_nil_of_le (by omega)] at q2
            obtain ⟨k', rfl⟩ : ∃ k', k = k' + 1 := ⟨k - 1, by omega⟩
            rw [← q2]
            rfl
          have cS := Tryd.Builder_String_any_k D D acc wr hbd.isB (by have := hK.size; omega)
          have g1 : ¬ (0 : Int) < ((o - o : Nat) : Int) := by omega
          have HF := hide' hfin
          have HBw := hide' hBw
          clear hfin hpa hbd hK hBw
          go_wp2_with fail
          refine cS.mono ?_
          rintro e w3 ⟨rfl, -, hb3, -⟩
          have hB3 : Below w.heap.size w w3 := HBw.out.trans (hb3.mono hs1)
          clear cS
          go_wp2
          refine bodyPost_ret (v := Rf.plV (some acc)) (by simp [Rf.plV, results, Tryd.results16, go_sem]) rfl ⟨by rw [HF.out], hB3⟩
end Go.Proofs.YtbbbokkfhfmoeaaDoor
