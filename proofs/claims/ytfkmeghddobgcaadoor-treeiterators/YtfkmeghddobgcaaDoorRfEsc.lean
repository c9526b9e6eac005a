/-
  WALKS over refs.inText, inValue, escape, Text and Value.
-/
import Derived.Test.YtfkmeghddobgcaaDoorRfBld
namespace Go.Proofs.YtfkmeghddobgcaaDoor
open Go.RowKit Go.Lib

namespace Rf
/-- how a byte is written in a text, or in a value, where it isn't written as it is; else nothing -/
def inT (x : Nat) : List UInt8 := if x = 38 then [38, 97, 109, 112, 59] else if x = 60 then [38, 108, 116, 59] else if x = 62 then [38, 103, 116, 59] else if x = 13 then [38, 35, 120, 68, 59] else []
def inV (x : Nat) : List UInt8 := if x = 38 then [38, 97, 109, 112, 59] else if x = 60 then [38, 108, 116, 59] else if x = 34 then [38, 113, 117, 111, 116, 59] else if x = 9 then [38, 35, 120, 57, 59] else if x = 10 then [38, 35, 120, 65, 59] else if x = 13 then [38, 35, 120, 68, 59] else []
theorem inT_le (x : Nat) : (inT x).length ≤ 6 := by unfold inT; repeat' split
                                                    all_goals decide
theorem inV_le (x : Nat) : (inV x).length ≤ 6 := by unfold inV; repeat' split
                                                    all_goals decide
/-- a text's bytes, written so -/
def one (form : Nat → List UInt8) (x : UInt8) : List UInt8 := if form x.toNat = [] then [x] else form x.toNat
def esc (form : Nat → List UInt8) (l : List UInt8) : List UInt8 := l.flatMap (one form)
theorem esc_append (form : Nat → List UInt8) (a b : List UInt8) : esc form (a ++ b) = esc form a ++ esc form b := by simp [esc]
theorem esc_take (form : Nat → List UInt8) (l : List UInt8) (k : Nat) (h : k < l.length) : esc form (l.take (k + 1)) = esc form (l.take k) ++ one form l[k] := by
  rw [List.take_succ_eq_append_getElem h, esc_append]
  simp [esc]
theorem esc_le (form : Nat → List UInt8) (hf : ∀ x, (form x).length ≤ 6) (l : List UInt8) : (esc form l).length ≤ 6 * l.length := by
  induction l with
  | nil => simp [esc]
  | cons a l ih =>
    have e : esc form (a :: l) = one form a ++ esc form l := by simp [esc]
    have h6 : (one form a).length ≤ 6 := by
      unfold one
      split
      · simp
      · exact hf _
    rw [e, List.length_append, List.length_cons]
    omega
end Rf

set_option maxHeartbeats 400000 in
theorem inText_any (x : Nat) (w : World) : Calls Tryd.prog 73 #[.int .u8 x] w fun e w' => e = .returned (.string ⟨(Rf.inT x).toArray⟩) ∧ w' = w := by
  by_cases h38 : x = 38
  · have e38 : ((x : Int) == 38) = true := by simp; omega
    have eF : Rf.inT x = [38, 97, 109, 112, 59] := by unfold Rf.inT; rw [if_pos h38]
    rw [eF]
    clear h38
    go_enter Tryd.func73, Tryd.ntmps73
    go_wp2
    go_ret
    exact ⟨rfl, rfl⟩
  by_cases h60 : x = 60
  · have e38 : ((x : Int) == 38) = false := by simp; omega
    have e60 : ((x : Int) == 60) = true := by simp; omega
    have eF : Rf.inT x = [38, 108, 116, 59] := by unfold Rf.inT; rw [if_neg h38, if_pos h60]
    rw [eF]
    clear h38
    clear h60
    go_enter Tryd.func73, Tryd.ntmps73
    go_wp2
    go_ret
    exact ⟨rfl, rfl⟩
  by_cases h62 : x = 62
  · have e38 : ((x : Int) == 38) = false := by simp; omega
    have e60 : ((x : Int) == 60) = false := by simp; omega
    have e62 : ((x : Int) == 62) = true := by simp; omega
    have eF : Rf.inT x = [38, 103, 116, 59] := by unfold Rf.inT; rw [if_neg h38, if_neg h60, if_pos h62]
    rw [eF]
    clear h38
    clear h60
    clear h62
    go_enter Tryd.func73, Tryd.ntmps73
    go_wp2
    go_ret
    exact ⟨rfl, rfl⟩
  by_cases h13 : x = 13
  · have e38 : ((x : Int) == 38) = false := by simp; omega
    have e60 : ((x : Int) == 60) = false := by simp; omega
    have e62 : ((x : Int) == 62) = false := by simp; omega
    have e13 : ((x : Int) == 13) = true := by simp; omega
    have eF : Rf.inT x = [38, 35, 120, 68, 59] := by unfold Rf.inT; rw [if_neg h38, if_neg h60, if_neg h62, if_pos h13]
    rw [eF]
    clear h38
    clear h60
    clear h62
    clear h13
    go_enter Tryd.func73, Tryd.ntmps73
    go_wp2
    go_ret
    exact ⟨rfl, rfl⟩
  have e38 : ((x : Int) == 38) = false := by simp; omega
  have e60 : ((x : Int) == 60) = false := by simp; omega
  have e62 : ((x : Int) == 62) = false := by simp; omega
  have e13 : ((x : Int) == 13) = false := by simp; omega
  have eF : Rf.inT x = [] := by unfold Rf.inT; rw [if_neg h38, if_neg h60, if_neg h62, if_neg h13]
  rw [eF]
  clear h38
  clear h60
  clear h62
  clear h13
  go_enter Tryd.func73, Tryd.ntmps73
  go_wp2
  go_ret
  exact ⟨rfl, rfl⟩
set_option maxHeartbeats 400000 in
theorem inValue_any (x : Nat) (w : World) : Calls Tryd.prog 76 #[.int .u8 x] w fun e w' => e = .returned (.string ⟨(Rf.inV x).toArray⟩) ∧ w' = w := by
  by_cases h38 : x = 38
  · have e38 : ((x : Int) == 38) = true := by simp; omega
    have eF : Rf.inV x = [38, 97, 109, 112, 59] := by unfold Rf.inV; rw [if_pos h38]
    rw [eF]
    clear h38
    go_enter Tryd.func76, Tryd.ntmps76
    go_wp2
    go_ret
    exact ⟨rfl, rfl⟩
  by_cases h60 : x = 60
  · have e38 : ((x : Int) == 38) = false := by simp; omega
    have e60 : ((x : Int) == 60) = true := by simp; omega
    have eF : Rf.inV x = [38, 108, 116, 59] := by unfold Rf.inV; rw [if_neg h38, if_pos h60]
    rw [eF]
    clear h38
    clear h60
    go_enter Tryd.func76, Tryd.ntmps76
    go_wp2
    go_ret
    exact ⟨rfl, rfl⟩
  by_cases h34 : x = 34
  · have e38 : ((x : Int) == 38) = false := by simp; omega
    have e60 : ((x : Int) == 60) = false := by simp; omega
    have e34 : ((x : Int) == 34) = true := by simp; omega
    have eF : Rf.inV x = [38, 113, 117, 111, 116, 59] := by unfold Rf.inV; rw [if_neg h38, if_neg h60, if_pos h34]
    rw [eF]
    clear h38
    clear h60
    clear h34
    go_enter Tryd.func76, Tryd.ntmps76
    go_wp2
    go_ret
    exact ⟨rfl, rfl⟩
  by_cases h9 : x = 9
  · have e38 : ((x : Int) == 38) = false := by simp; omega
    have e60 : ((x : Int) == 60) = false := by simp; omega
    have e34 : ((x : Int) == 34) = false := by simp; omega
    have e9 : ((x : Int) == 9) = true := by simp; omega
    have eF : Rf.inV x = [38, 35, 120, 57, 59] := by unfold Rf.inV; rw [if_neg h38, if_neg h60, if_neg h34, if_pos h9]
    rw [eF]
    clear h38
    clear h60
    clear h34
    clear h9
    go_enter Tryd.func76, Tryd.ntmps76
    go_wp2
    go_ret
    exact ⟨rfl, rfl⟩
  by_cases h10 : x = 10
  · have e38 : ((x : Int) == 38) = false := by simp; omega
    have e60 : ((x : Int) == 60) = false := by simp; omega
    have e34 : ((x : Int) == 34) = false := by simp; omega
    have e9 : ((x : Int) == 9) = false := by simp; omega
    have e10 : ((x : Int) == 10) = true := by simp; omega
    have eF : Rf.inV x = [38, 35, 120, 65, 59] := by unfold Rf.inV; rw [if_neg h38, if_neg h60, if_neg h34, if_neg h9, if_pos h10]
    rw [eF]
    clear h38
    clear h60
    clear h34
    clear h9
    clear h10
    go_enter Tryd.func76, Tryd.ntmps76
    go_wp2
    go_ret
    exact ⟨rfl, rfl⟩
  by_cases h13 : x = 13
  · have e38 : ((x : Int) == 38) = false := by simp; omega
    have e60 : ((x : Int) == 60) = false := by simp; omega
    have e34 : ((x : Int) == 34) = false := by simp; omega
    have e9 : ((x : Int) == 9) = false := by simp; omega
    have e10 : ((x : Int) == 10) = false := by simp; omega
    have e13 : ((x : Int) == 13) = true := by simp; omega
    have eF : Rf.inV x = [38, 35, 120, 68, 59] := by unfold Rf.inV; rw [if_neg h38, if_neg h60, if_neg h34, if_neg h9, if_neg h10, if_pos h13]
    rw [eF]
    clear h38
    clear h60
    clear h34
    clear h9
    clear h10
    clear h13
    go_enter Tryd.func76, Tryd.ntmps76
    go_wp2
    go_ret
    exact ⟨rfl, rfl⟩
  have e38 : ((x : Int) == 38) = false := by simp; omega
  have e60 : ((x : Int) == 60) = false := by simp; omega
  have e34 : ((x : Int) == 34) = false := by simp; omega
  have e9 : ((x : Int) == 9) = false := by simp; omega
  have e10 : ((x : Int) == 10) = false := by simp; omega
  have e13 : ((x : Int) == 13) = false := by simp; omega
  have eF : Rf.inV x = [] := by unfold Rf.inV; rw [if_neg h38, if_neg h60, if_neg h34, if_neg h9, if_neg h10, if_neg h13]
  rw [eF]
  clear h38
  clear h60
  clear h34
  clear h9
  clear h10
  clear h13
  go_enter Tryd.func76, Tryd.ntmps76
  go_wp2
  go_ret
  exact ⟨rfl, rfl⟩
theorem builder_below' {N b : Nat} {bs : List Value} {W W' : World} (h : Lib.IsBuilderF 77 5 N b bs W) (hb : Below W.heap.size W W') : Lib.IsBuilderF 77 5 N b bs W' := by
  have go : ∀ {p : Value}, Lib.BuilderAtF 77 5 N b p bs W → Lib.BuilderAtF 77 5 N b p bs W' := by
    rintro p ⟨hB, v, hb0, hown, hne⟩
    have k : ∀ {q : Nat} {o : Obj}, W.heap[q]? = some o → W'.heap[q]? = some o := fun {q o} e => (hb.block q (Array.getElem?_eq_some_iff.1 e).1).trans e
    refine ⟨hB, v, k hb0, ⟨hown.1, ?_⟩, hne⟩
    rcases hown.2 with hn | ⟨g, cap, cur, fz, hv, hbg, hg, rest⟩
    · exact .inl hn
    · exact .inr ⟨g, cap, cur, fz, hv, hbg, k hg, rest⟩
  exact h.elim (fun x => .inl (go x)) (fun x => .inr (go x))

theorem strCells_mk (m : List UInt8) : Lib.strCells ⟨m.toArray⟩ = Lib.byteCells m := rfl
theorem strIndex (l : List UInt8) (k : Nat) (hk : k < l.length) (y : UInt8) (hy : l[k]'hk = y) (h : k < (ByteArray.mk l.toArray).size) : (ByteArray.mk l.toArray)[k]'h = y := hy
theorem strExtract (l : List UInt8) (a b : Nat) : (ByteArray.mk l.toArray).extract a b = ⟨((l.drop a).take (b - a)).toArray⟩ := by
  have e : ((ByteArray.mk l.toArray).extract a b).data = ((l.drop a).take (b - a)).toArray := by
    rw [ByteArray.data_extract]
    apply Array.ext'
    simp [List.extract_eq_take_drop]
  exact congrArg ByteArray.mk e

set_option maxHeartbeats 1000000 in
theorem escape_any (F : Nat) (form : Nat → List UInt8) (hle : ∀ x, (form x).length ≤ 6) (hF : ∀ (x : Nat) w, Calls Tryd.prog F #[.int .u8 x] w fun e w' => e = .returned (.string ⟨(form x).toArray⟩) ∧ w' = w) (hEn : ∀ args w, (callFunc F args).run Tryd.prog w = .ok (.enter F args) w)
    (l : List UInt8) (w : World) (hn : 6 * l.length ≤ 140737488355328) :
    Calls Tryd.prog 72 #[.string ⟨l.toArray⟩, .func (.func F) #[] #[]] w fun e w' => e = .returned (.string ⟨(Rf.esc form l).toArray⟩) ∧ Below w.heap.size w w' := by
  have hsz : (ByteArray.mk l.toArray).size = l.length := by simp [ByteArray.size]
  have hI0 : Lib.IsBuilderF 77 5 w.heap.size w.heap.size (Lib.byteCells (Rf.esc form (l.take 0))) (w.alloc (.cells #[.pointer none, .slice none 0 0] 77)) := Lib.IsBuilderF.of (Lib.fresh_isBuilder 77 5 w)
  have hB0 : Below w.heap.size w (w.alloc (.cells #[.pointer none, .slice none 0 0] 77)) := (Below.refl _ _).alloc (Nat.le_refl _) _
  obtain ⟨n, hln⟩ : ∃ n, l.length = n := ⟨_, rfl⟩
  have HSZ := hide' hsz
  have hel := fun k => Rf.esc_le form hle (l.take k)
  go_enter Tryd.func72, Tryd.ntmps72
  go_wp2
  go_loopw [6, 11] (fun d a wr => ∃ d' a' : Nat, d = .int .i64 d' ∧ a = .int .i64 a' ∧ d' ≤ a' ∧ a' ≤ n ∧ Hid (Rf.esc form (l.take a') = Rf.esc form (l.take d') ++ (l.drop d').take (a' - d')) ∧ Lib.IsBuilderF 77 5 w.heap.size w.heap.size (Lib.byteCells (Rf.esc form (l.take d'))) wr ∧ Below w.heap.size w wr) (fun _ a _ => n - (RowKit.intOf a).toNat)
  case atStart => exact ⟨0, 0, rfl, rfl, Nat.le_refl _, Nat.zero_le _, (by show _ = _; simp), hI0, hB0⟩
  case round =>
    obtain ⟨d, a, rfl, rfl, hda, han, hE, hI, hB⟩ := hrel
    clear hI0 hB0
    have hsw := hB.size
    by_cases hlt : a < n
    · have g1 : (a : Int) < n := by omega
      have hal : a < l.length := by omega
      have hstep := Rf.esc_take form l a hal
      obtain ⟨y, hy⟩ : ∃ y, l[a]'hal = y := ⟨_, rfl⟩
      have hix : ∀ h : a < (ByteArray.mk l.toArray).size, (ByteArray.mk l.toArray)[a]'h = y := fun h => strIndex l a hal y hy h
      rw [hy] at hstep
      have cF := hF y.toNat wr
      have hex : (ByteArray.mk l.toArray).extract d a = ⟨((l.drop d).take (a - d)).toArray⟩ := strExtract l d a
      have hl1 : ((l.drop d).take (a - d)).length = a - d := by simp; omega
      have hld := hel d
      have hla := hel a
      have hl6 := hle y.toNat
      simp only [List.length_take] at hld hla
      obtain ⟨fo, hfo⟩ : ∃ fo, form y.toNat = fo := ⟨_, rfl⟩
      unfold Rf.one at hstep
      rw [hfo] at cF hl6 hstep
      clear hy hfo
      by_cases h0 : fo = []
      · subst h0
        rw [if_pos rfl] at hstep
        have HST := hide' hstep
        have HI := hide' hI
        clear hstep hI hex hel
        go_wp2_with fail
        refine cF.mono ?_
        rintro e w1 ⟨rfl, rfl⟩
        clear cF
        go_wp2
        go_roundw
        case rel =>
          refine ⟨d, a + 1, by go_num, by go_num, by omega, by omega, ?_, HI.out, hB⟩
          show _ = _
          rw [HST.out, hE.out, List.append_assoc]
          congr 1
          rw [show a + 1 - d = (a - d) + 1 by omega, List.take_succ_eq_append_getElem (by simp; omega)]
          congr 1
          have hx2 := hix (by rw [HSZ.out]; exact hal)
          simp only [List.getElem_drop]
          rw [← hx2]
          simp only [show d + (a - d) = a by omega]
          rfl
        case measure => simp [RowKit.intOf]; omega
      · rw [if_neg h0] at hstep
        have HST := hide' hstep
        have hwl : (ByteArray.mk ((l.drop d).take (a - d)).toArray).size = a - d := by rw [← hl1]; simp [ByteArray.size]
        have cW := writeString_k w.heap.size w.heap.size (Lib.byteCells (Rf.esc form (l.take d))) ⟨((l.drop d).take (a - d)).toArray⟩ wr hI (by rw [Lib.byteCells_length, hwl]; omega) hsw
        have hfl : (ByteArray.mk fo.toArray).size = fo.length := by simp [ByteArray.size]
        have hne : fo.isEmpty = false := by simpa using h0
        rw [strCells_mk, ← Lib.byteCells_append, ← hE.out] at cW
        have HE := hide' hE.out
        have HH := hide' hwl
        have HF2 := hide' hfl
        have s1 : (0 : Int) ≤ (d : Int) := by omega
        have s2 : (d : Int) ≤ (a : Int) := by omega
        clear hstep hI hel hE hwl hfl
        go_wp2_with fail
        refine cF.mono ?_
        rintro e w1 ⟨rfl, rfl⟩
        clear cF
        go_wp2_with fail
        refine cW.mono ?_
        rintro e w2 ⟨rfl, hI2, hb2, -⟩
        have hB2 := hB.trans hb2
        have cV := writeString_k w.heap.size w.heap.size (Lib.byteCells (Rf.esc form (l.take a))) ⟨fo.toArray⟩ w2 (.inr hI2) (by rw [Lib.byteCells_length, HF2.out]; omega) hB2.size
        rw [strCells_mk, ← Lib.byteCells_append, ← HST.out] at cV
        have HB2 := hide' hB2
        clear cW hI2 hb2 hB2 hB
        go_wp2_with fail
        refine cV.mono ?_
        rintro e w3 ⟨rfl, hI3, hb3, -⟩
        have HI3 := hide' hI3
        clear cV hI3
        go_wp2
        go_roundw
        case rel => exact ⟨a + 1, a + 1, by go_num, by go_num, Nat.le_refl _, by omega, (by show _ = _; simp), .inr HI3.out, HB2.out.trans hb3⟩
        case measure => simp [RowKit.intOf]; omega
    · obtain rfl : a = n := by omega
      have g1 : ¬ (a : Int) < a := by omega
      have hex : (ByteArray.mk l.toArray).extract d a = ⟨((l.drop d).take (a - d)).toArray⟩ := strExtract l d a
      have hl1 : ((l.drop d).take (a - d)).length = a - d := by simp; omega
      have hwl : (ByteArray.mk ((l.drop d).take (a - d)).toArray).size = a - d := by rw [← hl1]; simp [ByteArray.size]
      have hld := hel d
      simp only [List.length_take] at hld
      have cW := writeString_k w.heap.size w.heap.size (Lib.byteCells (Rf.esc form (l.take d))) ⟨((l.drop d).take (a - d)).toArray⟩ wr hI (by rw [Lib.byteCells_length, hwl]; omega) hsw
      rw [strCells_mk, ← Lib.byteCells_append, ← hE.out, show l.take a = l by rw [← hln]; simp] at cW
      have HH := hide' hwl
      have s1 : (0 : Int) ≤ (d : Int) := by omega
      have s2 : (d : Int) ≤ (a : Int) := by omega
      clear hI hel hE hwl
      go_wp2_with fail
      refine cW.mono ?_
      rintro e w2 ⟨rfl, hI2, hb2, -⟩
      have hB2 := hB.trans hb2
      have cS := Tryd.Builder_String_any_k w.heap.size w.heap.size (Rf.esc form l) w2 (.inr hI2) hB2.size
      have HB2 := hide' hB2
      clear cW hI2 hb2 hB2 hB
      go_wp2_with fail
      refine cS.mono ?_
      rintro e w3 ⟨rfl, -, hb3, -⟩
      clear cS
      go_wp2
      go_ret
      exact ⟨rfl, HB2.out.trans hb3⟩

theorem rfText_any (l : List UInt8) (w : World) (hn : 6 * l.length ≤ 140737488355328) :
    Calls Tryd.prog 63 #[.string ⟨l.toArray⟩] w fun e w' => e = .returned (.string ⟨(Rf.esc Rf.inT l).toArray⟩) ∧ Below w.heap.size w w' := by
  have c := escape_any 73 Rf.inT Rf.inT_le inText_any (enters_of Tryd.func73 (by kernel_rfl) rfl) l w hn
  go_enter Tryd.func63, Tryd.ntmps63
  go_wp2_with fail
  refine c.mono ?_
  rintro e w1 ⟨rfl, hb1⟩
  go_wp2
  go_ret
  exact ⟨rfl, hb1⟩
theorem rfValue_any (l : List UInt8) (w : World) (hn : 6 * l.length ≤ 140737488355328) :
    Calls Tryd.prog 71 #[.string ⟨l.toArray⟩] w fun e w' => e = .returned (.string ⟨(Rf.esc Rf.inV l).toArray⟩) ∧ Below w.heap.size w w' := by
  have c := escape_any 76 Rf.inV Rf.inV_le inValue_any (enters_of Tryd.func76 (by kernel_rfl) rfl) l w hn
  go_enter Tryd.func71, Tryd.ntmps71
  go_wp2_with fail
  refine c.mono ?_
  rintro e w1 ⟨rfl, hb1⟩
  go_wp2
  go_ret
  exact ⟨rfl, hb1⟩
end Go.Proofs.YtfkmeghddobgcaaDoor
