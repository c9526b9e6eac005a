import Derived.Test.YtcmjipgigkalcaaDoorRfBld
import Derived.Test.YtcmjipgigkalcaaDoorTrDocC
import Derived.Test.YtcmjipgigkalcaaDoorTrVal
/-
  WALKS over refs.inText, inValue, escape, Text and Value.
-/
namespace Go.Proofs.YtcmjipgigkalcaaDoor
open Go.RowKit Go.Lib

namespace Rf
/-- how a byte is written in a text, or in a value, where it isn't written as it is; else nothing -/
def inT (x : Nat) : List UInt8 := if x = 38 then [38, 97, 109, 112, 59] else if x = 60 then [38, 108, 116, 59] else if x = 62 then [38, 103, 116, 59] else if x = 13 then [38, 35, 120, 68, 59] else []
def inV (x : Nat) : List UInt8 := if x = 38 then [38, 97, 109, 112, 59] else if x = 60 then [38, 108, 116, 59] else if x = 34 then [38, 113, 117, 111, 116, 59] else if x = 9 then [38, 35, 120, 57, 59] else if x = 10 then [38, 35, 120, 65, 59] else if x = 13 then [38, 35, 120, 68, 59] else []
theorem inT_le (x : Nat) : (inT x).length ≤ 6 := by unfold inT; repeat' split
                                                    all_goals decide
theorem inV_le (x : Nat) : (inV x).length ≤ 6 := by unfold inV; repeat' split
                                                    all_goals decide
/-- a text's bytes, written so -/
def one (form : Nat → List UInt8) (x : UInt8) : List UInt8 := if form x.toNat = [] then [x] else form x.toNat
def esc (form : Nat → List UInt8) (l : List UInt8) : List UInt8 := l.flatMap (one form)
theorem esc_append (form : Nat → List UInt8) (a b : List UInt8) : esc form (a ++ b) = esc form a ++ esc form b := by simp [esc]
theorem esc_take (form : Nat → List UInt8) (l : List UInt8) (k : Nat) (h : k < l.length) : esc form (l.take (k + 1)) = esc form (l.take k) ++ one form l[k] := by
  rw [List.take_succ_eq_append_getElem h, esc_append]
  simp [esc]
theorem esc_le (form : Nat → List UInt8) (hf : ∀ x, (form x).length ≤ 6) (l : List UInt8) : (esc form l).length ≤ 6 * l.length := by
  induction l with
  | nil => simp [esc]
  | cons a l ih =>
    have e : esc form (a :: l) = one form a ++ esc form l := by simp [esc]
    have h6 : (one form a).length ≤ 6 := by
      unfold one
      split
      · simp
      · exact hf _
    rw [e, List.length_append, List.length_cons]
    omega
end Rf

set_option maxHeartbeats 400000 in
theorem inText_any (x : Nat) (w : World) : Calls Tryd.prog 69 #[.int .u8 x] w fun e w' => e = .returned (.string ⟨(Rf.inT x).toArray⟩) ∧ w' = w := by
  by_cases h38 : x = 38
  · have e38 : ((x : Int) == 38) = true := by simp; omega
    have eF : Rf.inT x = [38, 97, 109, 112, 59] := by unfold Rf.inT; rw [if_pos h38]
    rw [eF]
    clear h38
    go_enter Tryd.func69, Tryd.ntmps69
    go_wp2
    go_ret
    exact ⟨rfl, rfl⟩
  by_cases h60 : x = 60
  · have e38 : ((x : Int) == 38) = false := by simp; omega
    have e60 : ((x : Int) == 60) = true := by simp; omega
    have eF : Rf.inT x = [38, 108, 116, 59] := by unfold Rf.inT; rw [if_neg h38, if_pos h60]
    rw [eF]
    clear h38
    clear h60
    go_enter Tryd.func69, Tryd.ntmps69
    go_wp2
    go_ret
    exact ⟨rfl, rfl⟩
  by_cases h62 : x = 62
  · have e38 : ((x : Int) == 38) = false := by simp; omega
    have e60 : ((x : Int) == 60) = false := by simp; omega
    have e62 : ((x : Int) == 62) = true := by simp; omega
    have eF : Rf.inT x = [38, 103, 116, 59] := by unfold Rf.inT; rw [if_neg h38, if_neg h60, if_pos h62]
    rw [eF]
    clear h38
    clear h60
    clear h62
    go_enter Tryd.func69, Tryd.ntmps69
    go_wp2
    go_ret
    exact ⟨rfl, rfl⟩
  by_cases h13 : x = 13
  · have e38 : ((x : Int) == 38) = false := by simp; omega
    have e60 : ((x : Int) == 60) = false := by simp; omega
    have e62 : ((x : Int) == 62) = false := by simp; omega
    have e13 : ((x : Int) == 13) = true := by simp; omega
    have eF : Rf.inT x = [38, 35, 120, 68, 59] := by unfold Rf.inT; rw [if_neg h38, if_neg h60, if_neg h62, if_pos h13]
    rw [eF]
    clear h38
    clear h60
    clear h62
    clear h13
    go_enter Tryd.func69, Tryd.ntmps69
    go_wp2
    go_ret
    exact ⟨rfl, rfl⟩
  have e38 : ((x : Int) == 38) = false := by simp; omega
  have e60 : ((x : Int) == 60) = false := by simp; omega
  have e62 : ((x : Int) == 62) = false := by simp; omega
  have e13 : ((x : Int) == 13) = false := by simp; omega
  have eF : Rf.inT x = [] := by unfold Rf.inT; rw [if_neg h38, if_neg h60, if_neg h62, if_neg h13]
  rw [eF]
  clear h38
  clear h60
  clear h62
  clear h13
  go_enter Tryd.func69, Tryd.ntmps69
  go_wp2
  go_ret
  exact ⟨rfl, rfl⟩
set_option maxHeartbeats 400000 in
theorem inValue_any (x : Nat) (w : World) : Calls Tryd.prog 72 #[.int .u8 x] w fun e w' => e = .returned (.string ⟨(Rf.inV x).toArray⟩) ∧ w' = w := by
  by_cases h38 : x = 38
  · have e38 : ((x : Int) == 38) = true := by simp; omega
    have eF : Rf.inV x = [38, 97, 109, 112, 59] := by unfold Rf.inV; rw [if_pos h38]
    rw [eF]
    clear h38
    go_enter Tryd.func72, Tryd.ntmps72
    go_wp2
    go_ret
    exact ⟨rfl, rfl⟩
  by_cases h60 : x = 60
  · have e38 : ((x : Int) == 38) = false := by simp; omega
    have e60 : ((x : Int) == 60) = true := by simp; omega
    have eF : Rf.inV x = [38, 108, 116, 59] := by unfold Rf.inV; rw [if_neg h38, if_pos h60]
    rw [eF]
    clear h38
    clear h60
    go_enter Tryd.func72, Tryd.ntmps72
    go_wp2
    go_ret
    exact ⟨rfl, rfl⟩
  by_cases h34 : x = 34
  · have e38 : ((x : Int) == 38) = false := by simp; omega
    have e60 : ((x : Int) == 60) = false := by simp; omega
    have e34 : ((x : Int) == 34) = true := by simp; omega
    have eF : Rf.inV x = [38, 113, 117, 111, 116, 59] := by unfold Rf.inV; rw [if_neg h38, if_neg h60, if_pos h34]
    rw [eF]
    clear h38
    clear h60
    clear h34
    go_enter Tryd.func72, Tryd.ntmps72
    go_wp2
    go_ret
    exact ⟨rfl, rfl⟩
  by_cases h9 : x = 9
  · have e38 : ((x : Int) == 38) = false := by simp; omega
    have e60 : ((x : Int) == 60) = false := by simp; omega
    have e34 : ((x : Int) == 34) = false := by simp; omega
    have e9 : ((x : Int) == 9) = true := by simp; omega
    have eF : Rf.inV x = [38, 35, 120, 57, 59] := by unfold Rf.inV; rw [if_neg h38, if_neg h60, if_neg h34, if_pos h9]
    rw [eF]
    clear h38
    clear h60
    clear h34
    clear h9
    go_enter Tryd.func72, Tryd.ntmps72
    go_wp2
    go_ret
    exact ⟨rfl, rfl⟩
  by_cases h10 : x = 10
  · have e38 : ((x : Int) == 38) = false := by simp; omega
    have e60 : ((x : Int) == 60) = false := by simp; omega
    have e34 : ((x : Int) == 34) = false := by simp; omega
    have e9 : ((x : Int) == 9) = false := by simp; omega
    have e10 : ((x : Int) == 10) = true := by simp; omega
    have eF : Rf.inV x = [38, 35, 120, 65, 59] := by unfold Rf.inV; rw [if_neg h38, if_neg h60, if_neg h34, if_neg h9, if_pos h10]
    rw [eF]
    clear h38
    clear h60
    clear h34
    clear h9
    clear h10
    go_enter Tryd.func72, Tryd.ntmps72
    go_wp2
    go_ret
    exact ⟨rfl, rfl⟩
  by_cases h13 : x = 13
  · have e38 : ((x : Int) == 38) = false := by simp; omega
    have e60 : ((x : Int) == 60) = false := by simp; omega
    have e34 : ((x : Int) == 34) = false := by simp; omega
    have e9 : ((x : Int) == 9) = false := by simp; omega
    have e10 : ((x : Int) == 10) = false := by simp; omega
    have e13 : ((x : Int) == 13) = true := by simp; omega
    have eF : Rf.inV x = [38, 35, 120, 68, 59] := by unfold Rf.inV; rw [if_neg h38, if_neg h60, if_neg h34, if_neg h9, if_neg h10, if_pos h13]
    rw [eF]
    clear h38
    clear h60
    clear h34
    clear h9
    clear h10
    clear h13
    go_enter Tryd.func72, Tryd.ntmps72
    go_wp2
    go_ret
    exact ⟨rfl, rfl⟩
  have e38 : ((x : Int) == 38) = false := by simp; omega
  have e60 : ((x : Int) == 60) = false := by simp; omega
  have e34 : ((x : Int) == 34) = false := by simp; omega
  have e9 : ((x : Int) == 9) = false := by simp; omega
  have e10 : ((x : Int) == 10) = false := by simp; omega
  have e13 : ((x : Int) == 13) = false := by simp; omega
  have eF : Rf.inV x = [] := by unfold Rf.inV; rw [if_neg h38, if_neg h60, if_neg h34, if_neg h9, if_neg h10, if_neg h13]
  rw [eF]
  clear h38
  clear h60
  clear h34
  clear h9
  clear h10
  clear h13
  go_enter Tryd.func72, Tryd.ntmps72
  go_wp2
  go_ret
  exact ⟨rfl, rfl⟩
theorem builder_below' {N b : Nat} {bs : List Value} {W W' : World} (h : Lib.IsBuilderF 71 5 N b bs W) (hb : Below W.heap.size W W') : Lib.IsBuilderF 71 5 N b bs W' := by
  have go : ∀ {p : Value}, Lib.BuilderAtF 71 5 N b p bs W → Lib.BuilderAtF 71 5 N b p bs W' := by
    rintro p ⟨hB, v, hb0, hown, hne⟩
    have k : ∀ {q : Nat} {o : Obj}, W.heap[q]? = some o → W'.heap[q]? = some o := fun {q o} e => (hb.block q (Array.getElem?_eq_some_iff.1 e).1).trans e
    refine ⟨hB, v, k hb0, ⟨hown.1, ?_⟩, hne⟩
    rcases hown.2 with hn | ⟨g, cap, cur, fz, hv, hbg, hg, rest⟩
    · exact .inl hn
    · exact .inr ⟨g, cap, cur, fz, hv, hbg, k hg, rest⟩
  exact h.elim (fun x => .inl (go x)) (fun x => .inr (go x))

theorem strCells_mk (m : List UInt8) : Lib.strCells ⟨m.toArray⟩ = Lib.byteCells m := rfl
theorem strIndex (l : List UInt8) (k : Nat) (hk : k < l.length) (y : UInt8) (hy : l[k]'hk = y) (h : k < (ByteArray.mk l.toArray).size) : (ByteArray.mk l.toArray)[k]'h = y := hy
theorem strExtract (l : List UInt8) (a b : Nat) : (ByteArray.mk l.toArray).extract a b = ⟨((l.drop a).take (b - a)).toArray⟩ := by
  have e : ((ByteArray.mk l.toArray).extract a b).data = ((l.drop a).take (b - a)).toArray := by
    rw [ByteArray.data_extract]
    apply Array.ext'
    simp [List.extract_eq_take_drop]
  exact congrArg ByteArray.mk e

set_option maxHeartbeats 1000000 in
theorem escape_any (F : Nat) (form : Nat → List UInt8) (hle : ∀ x, (form x).length ≤ 6) (hF : ∀ (x : Nat) w, Calls Tryd.prog F #[.int .u8 x] w fun e w' => e = .returned (.string ⟨(form x).toArray⟩) ∧ w' = w) (hEn : ∀ args w, (callFunc F args).run Tryd.prog w = .ok (.enter F args) w)
    (l : List UInt8) (w : World) (hn : 6 * l.length ≤ 140737488355328) :
    Calls Tryd.prog 68 #[.string ⟨l.toArray⟩, .func (.func F) #[] #[]] w fun e w' => e = .returned (.string ⟨(Rf.esc form l).toArray⟩) ∧ Below w.heap.size w w' := by
  have hsz : (ByteArray.mk l.toArray).size = l.length := by simp [ByteArray.size]
  have hI0 : Lib.IsBuilderF 71 5 w.heap.size w.heap.size (Lib.byteCells (Rf.esc form (l.take 0))) (w.alloc (.cells #[.pointer none, .slice none 0 0] 71)) := Lib.IsBuilderF.of (Lib.fresh_isBuilder 71 5 w)
  have hB0 : Below w.heap.size w (w.alloc (.cells #[.pointer none, .slice none 0 0] 71)) := (Below.refl _ _).alloc (Nat.le_refl _) _
  obtain ⟨n, hln⟩ : ∃ n, l.length = n := ⟨_, rfl⟩
  have HSZ := hide' hsz
  have hel := fun k => Rf.esc_le form hle (l.take k)
  go_enter Tryd.func68, Tryd.ntmps68
  go_wp2
  go_loopw [6, 11] (fun d a wr => ∃ d' a' : Nat, d = .int .i64 d' ∧ a = .int .i64 a' ∧ d' ≤ a' ∧ a' ≤ n ∧ Hid (Rf.esc form (l.take a') = Rf.esc form (l.take d') ++ (l.drop d').take (a' - d')) ∧ Lib.IsBuilderF 71 5 w.heap.size w.heap.size (Lib.byteCells (Rf.esc form (l.take d'))) wr ∧ Below w.heap.size w wr) (fun _ a _ => n - (RowKit.intOf a).toNat)
  case atStart => exact ⟨0, 0, rfl, rfl, Nat.le_refl _, Nat.zero_le _, (by show _ = _; simp), hI0, hB0⟩
  case round =>
    obtain ⟨d, a, rfl, rfl, hda, han, hE, hI, hB⟩ := hrel
    clear hI0 hB0
    have hsw := hB.size
    by_cases hlt : a < n
    · have g1 : (a : Int) < n := by omega
      have hal : a < l.length := by omega
      have hstep := Rf.esc_take form l a hal
      obtain ⟨y, hy⟩ : ∃ y, l[a]'hal = y := ⟨_, rfl⟩
      have hix : ∀ h : a < (ByteArray.mk l.toArray).size, (ByteArray.mk l.toArray)[a]'h = y := fun h => strIndex l a hal y hy h
      rw [hy] at hstep
      have cF := hF y.toNat wr
      have hex : (ByteArray.mk l.toArray).extract d a = ⟨((l.drop d).take (a - d)).toArray⟩ := strExtract l d a
      have hl1 : ((l.drop d).take (a - d)).length = a - d := by simp; omega
      have hld := hel d
      have hla := hel a
      have hl6 := hle y.toNat
      simp only [List.length_take] at hld hla
      obtain ⟨fo, hfo⟩ : ∃ fo, form y.toNat = fo := ⟨_, rfl⟩
      unfold Rf.one at hstep
      rw [hfo] at cF hl6 hstep
      clear hy hfo
      by_cases h0 : fo = []
      · subst h0
        rw [if_pos rfl] at hstep
        have HST := hide' hstep
        have HI := hide' hI
        clear hstep hI hex hel
        go_wp2_with fail
        refine cF.mono ?_
        rintro e w1 ⟨rfl, rfl⟩
        clear cF
        go_wp2
        go_roundw
        case rel =>
          refine ⟨d, a + 1, by go_num, by go_num, by omega, by omega, ?_, HI.out, hB⟩
          show _ = _
          rw [HST.out, hE.out, List.append_assoc]
          congr 1
          rw [show a + 1 - d = (a - d) + 1 by omega, List.take_succ_eq_append_getElem (by simp; omega)]
          congr 1
          have hx2 := hix (by rw [HSZ.out]; exact hal)
          simp only [List.getElem_drop]
          rw [← hx2]
          simp only [show d + (a - d) = a by omega]
          rfl
        case measure => simp [RowKit.intOf]; omega
      · rw [if_neg h0] at hstep
        have HST := hide' hstep
        have hwl : (ByteArray.mk ((l.drop d).take (a - d)).toArray).size = a - d := by rw [← hl1]; simp [ByteArray.size]
        have cW := writeString_k w.heap.size w.heap.size (Lib.byteCells (Rf.esc form (l.take d))) ⟨((l.drop d).take (a - d)).toArray⟩ wr hI (by rw [Lib.byteCells_length, hwl]; omega) hsw
        have hfl : (ByteArray.mk fo.toArray).size = fo.length := by simp [ByteArray.size]
        have hne : fo.isEmpty = false := by simpa using h0
        rw [strCells_mk, ← Lib.byteCells_append, ← hE.out] at cW
        have HE := hide' hE.out
        have HH := hide' hwl
        have HF2 := hide' hfl
        have s1 : (0 : Int) ≤ (d : Int) := by omega
        have s2 : (d : Int) ≤ (a : Int) := by omega
        clear hstep hI hel hE hwl hfl
        go_wp2_with fail
        refine cF.mono ?_
        rintro e w1 ⟨rfl, rfl⟩
        clear cF
        go_wp2_with fail
        refine cW.mono ?_
        rintro e w2 ⟨rfl, hI2, hb2, -⟩
        have hB2 := hB.trans hb2
        have cV := writeString_k w.heap.size w.heap.size (Lib.byteCells (Rf.esc form (l.take a))) ⟨fo.toArray⟩ w2 (.inr hI2) (by rw [Lib.byteCells_length, HF2.out]; omega) hB2.size
        rw [strCells_mk, ← Lib.byteCells_append, ← HST.out] at cV
        have HB2 := hide' hB2
        clear cW hI2 hb2 hB2 hB
        go_wp2_with fail
        refine cV.mono ?_
        rintro e w3 ⟨rfl, hI3, hb3, -⟩
        have HI3 := hide' hI3
        clear cV hI3
        go_wp2
        go_roundw
        case rel => exact ⟨a + 1, a + 1, by go_num, by go_num, Nat.le_refl _, by omega, (by show _ = _; simp), .inr HI3.out, HB2.out.trans hb3⟩
        case measure => simp [RowKit.intOf]; omega
    · obtain rfl : a = n := by omega
      have g1 : ¬ (a : Int) < a := by omega
      have hex : (ByteArray.mk l.toArray).extract d a = ⟨((l.drop d).take (a - d)).toArray⟩ := strExtract l d a
      have hl1 : ((l.drop d).take (a - d)).length = a - d := by simp; omega
      have hwl : (ByteArray.mk ((l.drop d).take (a - d)).toArray).size = a - d := by rw [← hl1]; simp [ByteArray.size]
      have hld := hel d
      simp only [List.length_take] at hld
      have cW := writeString_k w.heap.size w.heap.size (Lib.byteCells (Rf.esc form (l.take d))) ⟨((l.drop d).take (a - d)).toArray⟩ wr hI (by rw [Lib.byteCells_length, hwl]; omega) hsw
      rw [strCells_mk, ← Lib.byteCells_append, ← hE.out, show l.take a = l by rw [← hln]; simp] at cW
      have HH := hide' hwl
      have s1 : (0 : Int) ≤ (d : Int) := by omega
      have s2 : (d : Int) ≤ (a : Int) := by omega
      clear hI hel hE hwl
      go_wp2_with fail
      refine cW.mono ?_
      rintro e w2 ⟨rfl, hI2, hb2, -⟩
      have hB2 := hB.trans hb2
      have cS := Tryd.Builder_String_any_k w.heap.size w.heap.size (Rf.esc form l) w2 (.inr hI2) hB2.size
      have HB2 := hide' hB2
      clear cW hI2 hb2 hB2 hB
      go_wp2_with fail
      refine cS.mono ?_
      rintro e w3 ⟨rfl, -, hb3, -⟩
      clear cS
      go_wp2
      go_ret
      exact ⟨rfl, HB2.out.trans hb3⟩

theorem rfText_any (l : List UInt8) (w : World) (hn : 6 * l.length ≤ 140737488355328) :
    Calls Tryd.prog 59 #[.string ⟨l.toArray⟩] w fun e w' => e = .returned (.string ⟨(Rf.esc Rf.inT l).toArray⟩) ∧ Below w.heap.size w w' := by
  have c := escape_any 69 Rf.inT Rf.inT_le inText_any (enters_of Tryd.func69 (by kernel_rfl) rfl) l w hn
  go_enter Tryd.func59, Tryd.ntmps59
  go_wp2_with fail
  refine c.mono ?_
  rintro e w1 ⟨rfl, hb1⟩
  go_wp2
  go_ret
  exact ⟨rfl, hb1⟩
theorem rfValue_any (l : List UInt8) (w : World) (hn : 6 * l.length ≤ 140737488355328) :
    Calls Tryd.prog 67 #[.string ⟨l.toArray⟩] w fun e w' => e = .returned (.string ⟨(Rf.esc Rf.inV l).toArray⟩) ∧ Below w.heap.size w w' := by
  have c := escape_any 72 Rf.inV Rf.inV_le inValue_any (enters_of Tryd.func72 (by kernel_rfl) rfl) l w hn
  go_enter Tryd.func67, Tryd.ntmps67
  go_wp2_with fail
  refine c.mono ?_
  rintro e w1 ⟨rfl, hb1⟩
  go_wp2
  go_ret
  exact ⟨rfl, hb1⟩
end Go.Proofs.YtcmjipgigkalcaaDoor
/-
  WALKS over canon.startTag, canon.Event and canon.Print.
-/
namespace Go.Proofs.YtcmjipgigkalcaaDoor
open Go.RowKit Go.Lib
namespace Tr
/-- a Builder of one's own: all lies from the block N on -/
structure Bld (N : Nat) (w : World) (l : List UInt8) (W : World) : Prop where
  out : Lib.IsBuilderF 71 5 N N (Lib.byteCells l) W
  bel : Below N w W
  lt : N < W.heap.size
theorem Bld.below {N : Nat} {w W W' : World} {l : List UInt8} (h : Bld N w l W) (hb : Below W.heap.size W W') : Bld N w l W' := by
  refine ⟨?_, h.bel.trans (hb.mono (Nat.le_of_lt h.lt)), Nat.lt_of_lt_of_le h.lt hb.size⟩
  have go : ∀ {p : Value}, Lib.BuilderAtF 71 5 N N p (Lib.byteCells l) W → Lib.BuilderAtF 71 5 N N p (Lib.byteCells l) W' := by
    rintro p ⟨hB, v, hbk, hown, hne⟩
    refine ⟨hB, v, (hb.block _ h.lt).trans hbk, ⟨hown.1, ?_⟩, hne⟩
    rcases hown.2 with hn | ⟨g, cap, cur, fz, hv, hbg, hg, rest⟩
    · exact .inl hn
    · exact .inr ⟨g, cap, cur, fz, hv, hbg, (hb.block g (Array.getElem?_eq_some_iff.1 hg).1).trans hg, rest⟩
  exact h.out.elim (fun x => .inl (go x)) (fun x => .inr (go x))
theorem Bld.start (w : World) : Bld w.heap.size w [] (w.alloc (.cells #[.pointer none, .slice none 0 0] 71)) :=
  ⟨Lib.IsBuilderF.of (Lib.fresh_isBuilder 71 5 w), (Below.refl _ _).alloc (Nat.le_refl _) _, by simp⟩
end Tr
theorem bldWrite {N : Nat} {w W : World} {l : List UInt8} (h : Tr.Bld N w l W) (s : ByteArray) (hs : l.length + s.size ≤ 140737488355328) :
    Calls Tryd.prog 32 #[.pointer (some ⟨N, 0, none⟩), .string s] W fun e W1 => e = .returned (.tuple #[.int .i64 s.size, .nilIface]) ∧ Tr.Bld N w (l ++ s.data.toList) W1 ∧ (∀ k c t fz, W.heap[k]? = some (.cells c t fz) → k ≠ N → t ≠ 5 → W1.heap[k]? = some (.cells c t fz)) := by
  refine (writeString_k N N (Lib.byteCells l) s W h.out (by rw [Lib.byteCells_length]; exact hs) (Nat.le_of_lt h.lt)).mono ?_
  rintro e W1 ⟨rfl, h2, b1, k1⟩
  refine ⟨rfl, ⟨?_, h.bel.trans b1, Nat.lt_of_lt_of_le h.lt b1.size⟩, fun k c t fz hk hn ht => k1 k _ hk (fun e => hn (Option.some.inj e)) (fun c' fz' e => by cases e; exact ht rfl)⟩
  rw [Lib.byteCells_append]
  exact .inr h2
namespace Tr
/-- how an attribute is written -/
def atB (x : ByteArray × ByteArray) : List UInt8 := [32] ++ x.1.data.toList ++ [61, 34] ++ Rf.esc Rf.inV x.2.data.toList ++ [34]
/-- a start tag up to its i-th attribute -/
def stp (nm : ByteArray) (ats : List (ByteArray × ByteArray)) (i : Nat) : List UInt8 := [60] ++ nm.data.toList ++ (ats.take i).flatMap atB
def stag (nm : ByteArray) (ats : List (ByteArray × ByteArray)) : List UInt8 := stp nm ats ats.length ++ [62]
theorem stp_succ (nm : ByteArray) (ats : List (ByteArray × ByteArray)) (i : Nat) (x : ByteArray × ByteArray) (h : ats[i]? = some x) : stp nm ats (i + 1) = stp nm ats i ++ atB x := by
  obtain ⟨hi, rfl⟩ := List.getElem?_eq_some_iff.1 h
  unfold stp
  rw [List.take_succ_eq_append_getElem hi, List.flatMap_append]
  simp
theorem stp_le (nm : ByteArray) (ats : List (ByteArray × ByteArray)) (i : Nat) : (stp nm ats i).length ≤ (stag nm ats).length := by
  unfold stag stp
  have h : ((ats.take i).flatMap atB).length ≤ (ats.flatMap atB).length := by
    conv => rhs; rw [← List.take_append_drop i ats, List.flatMap_append, List.length_append]
    omega
  simp only [List.length_append, List.take_length]
  omega
/-- an event's bytes -/
def evB (e : Ev Value) : List UInt8 := if e.kind = 0 then stag e.nm e.ats else if e.kind = 1 then Rf.esc Rf.inT e.tx.data.toList else if e.kind = 2 then [60, 47] ++ e.nm.data.toList ++ [62] else []
/-- the bytes of events -/
def evsB (E : Nat → Ev Value) : Nat → List UInt8
  | 0 => []
  | n + 1 => evsB E n ++ evB (E n)
theorem evsB_le (E : Nat → Ev Value) (i : Nat) : ∀ k, (evsB E i).length ≤ (evsB E (i + k)).length
  | 0 => Nat.le_refl _
  | k + 1 => by
    have := evsB_le E i k
    show _ ≤ (evsB E (i + k) ++ _).length
    rw [List.length_append]
    omega
end Tr
set_option maxRecDepth 100000 in
set_option maxHeartbeats 4000000 in
theorem trStartTag (nm : ByteArray) (v : Value) (ats : List (ByteArray × ByteArray)) (w : World) (hA : Tr.AtRow w v ats) (hs : ∀ x ∈ ats, x.1.size ≤ 1048576 ∧ x.2.size ≤ 1048576) (hl : (Tr.stag nm ats).length ≤ 70368744177664) :
    Calls Tryd.prog 58 #[.string nm, v] w fun r w' => r = .returned (.string ⟨(Tr.stag nm ats).toArray⟩) ∧ Below w.heap.size w w' := by
  obtain ⟨p, cap, rfl, a1, a2, a2', a3⟩ := hA
  obtain ⟨n, hn⟩ : ∃ n, ats.length = n := ⟨_, rfl⟩
  rw [hn] at a1 a3 ⊢
  have hsz : (Tr.stag nm ats).length = (Tr.stp nm ats n).length + 1 := by unfold Tr.stag; rw [hn]; simp
  have hnm : nm.size + 1 ≤ (Tr.stag nm ats).length := by
    have h1 := Tr.stp_le nm ats 0
    have h2 : (Tr.stp nm ats 0).length = 1 + nm.data.toList.length := by simp [Tr.stp]; omega
    have h3 : nm.data.toList.length = nm.size := rfl
    omega
  have cV : ∀ (s : ByteArray) (W : World), s.size ≤ 1048576 → _ := fun s W h => rfValue_any s.data.toList W (by have h3 : s.data.toList.length = s.size := rfl; omega)
  have CV := hide' cV
  have HN := hide' hn
  have HA := hide' a3
  have HS := hide' hs
  have HSZ := hide' hsz
  have HL := hide' hl
  have HNM := hide' hnm
  clear cV hn a3 hs hsz hl hnm a2'
  have c1 := bldWrite (Tr.Bld.start w) ⟨#[60]⟩ (by show 0 + 1 ≤ _; omega)
  go_enter Tryd.func58, Tryd.ntmps58
  go_wp2_with fail
  refine c1.mono ?_
  rintro e w1 ⟨rfl, h1, _⟩
  clear c1
  have c2 := bldWrite h1 nm (by have h5 := HL.out; have h6 := HNM.out; simp; omega)
  have C2 := hide' c2
  clear c2 h1
  go_wp2_with fail
  refine C2.out.mono ?_
  rintro e w2 ⟨rfl, h2, _⟩
  have H2 : Hid (Tr.Bld w.heap.size w (Tr.stp nm ats 0) w2) := by
    have e1 : Tr.stp nm ats 0 = [] ++ (⟨#[60]⟩ : ByteArray).data.toList ++ nm.data.toList := by simp [Tr.stp]
    rw [e1]
    exact h2
  clear h2 C2
  go_wp2_with fail
  go_loopw [13] (fun v wr => ∃ i : Nat, v = .int .i64 i ∧ i ≤ n ∧ Hid (Tr.Bld w.heap.size w (Tr.stp nm ats i) wr)) (fun v _ => n - (RowKit.intOf v).toNat)
  case atStart => exact ⟨0, rfl, Nat.zero_le _, H2⟩
  case round =>
    obtain ⟨i, rfl, hi, HB⟩ := hrel
    clear H2
    by_cases hlt : i < n
    · have t1 : (i : Int) < (n : Int) := by omega
      obtain ⟨b, o, rfl, ka⟩ := HA.out (by omega)
      obtain ⟨x, hx⟩ : ∃ x, ats[i]? = some x := ⟨_, List.getElem?_eq_getElem (by rw [HN.out]; exact hlt)⟩
      have hx1 := HS.out x (List.mem_of_getElem? hx)
      have hsu := Tr.stp_succ nm ats i x hx
      have hle := Tr.stp_le nm ats (i + 1)
      rw [hsu, List.length_append] at hle
      have hll := HL.out
      have ea : (Tr.atB x).length = 1 + x.1.size + 2 + (Rf.esc Rf.inV x.2.data.toList).length + 1 := by
        have h3 : x.1.data.toList.length = x.1.size := rfl
        unfold Tr.atB
        simp only [List.length_append, h3, List.length_cons, List.length_nil]
      have q0 : wr.cell? ⟨b, o + i * 2, none⟩ = some (.string x.1) := (HB.out.bel.cell (p := ⟨b, o + i * 2, none⟩) (block_lt_of_cell (ka i x hx).1)).trans (ka i x hx).1
      have q1 : wr.cell? ⟨b, o + i * 2 + 1, none⟩ = some (.string x.2) := (HB.out.bel.cell (p := ⟨b, o + i * 2 + 1, none⟩) (block_lt_of_cell (ka i x hx).2)).trans (ka i x hx).2
      have hB0 := HB.out.below ((Below.refl wr.heap.size wr).alloc (Nat.le_refl _) (.cells #[.string x.1, .string x.2] 67))
      have hne : wr.heap.size ≠ w.heap.size := by have := HB.out.lt; omega
      have hblk : (wr.alloc (.cells #[.string x.1, .string x.2] 67)).heap[wr.heap.size]? = some (.cells #[.string x.1, .string x.2] 67 (0, 0)) := heap_alloc_new _ _
      have c1 := bldWrite hB0 ⟨#[32]⟩ (by show _ + 1 ≤ _; omega)
      have C1 := hide' c1
      have HBK := hide' hblk
      have HSU := hide' hsu
      have HX1 := hide' hx1
      have HLE := hide' (show (Tr.stp nm ats i).length + (1 + x.1.size + 2 + (Rf.esc Rf.inV x.2.data.toList).length + 1) ≤ 70368744177664 by omega)
      have HLT := hide' hlt
      have HNE := hide' hne
      clear c1 hB0 hblk hsu hx1 hle hll ea ka hlt hne HA HS
      go_wp2_with fail
      refine C1.out.mono ?_
      rintro e w1 ⟨rfl, h1, k1⟩
      have hb1 := k1 _ _ _ _ HBK.out HNE.out (by decide)
      have z0 : w1.cell? ⟨wr.heap.size, 0, none⟩ = some (.string x.1) := by rw [Lib.cell_of_heap hb1]; rfl
      have c2 := bldWrite h1 x.1 (by rw [List.length_append]; have := HLE.out; show _ + 1 + _ ≤ _; omega)
      have C2 := hide' c2
      have HB1 := hide' hb1
      clear C1 k1 h1 c2 hb1 q0 q1
      go_wp2_with fail
      refine C2.out.mono ?_
      rintro e w2 ⟨rfl, h2, k2⟩
      have hb2 := k2 _ _ _ _ HB1.out HNE.out (by decide)
      have c3 := bldWrite h2 ⟨#[61, 34]⟩ (by rw [List.length_append, List.length_append]; have h9 := HLE.out; have h3 : x.1.data.toList.length = x.1.size := rfl; show _ + 1 + _ + 2 ≤ _; omega)
      have C3 := hide' c3
      have HB2 := hide' hb2
      clear C2 k2 h2 c3 hb2 HB1 z0
      go_wp2_with fail
      refine C3.out.mono ?_
      rintro e w3 ⟨rfl, h3, k3⟩
      have hb3 := k3 _ _ _ _ HB2.out HNE.out (by decide)
      have z1 : w3.cell? ⟨wr.heap.size, 1, none⟩ = some (.string x.2) := by rw [Lib.cell_of_heap hb3]; rfl
      have c4 := CV.out x.2 w3 HX1.out.2
      rw [show (ByteArray.mk x.2.data.toList.toArray) = x.2 from by cases x.2; rfl] at c4
      have C4 := hide' c4
      have H3 := hide' h3
      clear C3 k3 h3 c4 hb3 HB2
      go_wp2_with fail
      refine C4.out.mono ?_
      rintro e w4 ⟨rfl, hb4⟩
      have h4 := H3.out.below hb4
      have e4 : ((⟨(Rf.esc Rf.inV x.2.data.toList).toArray⟩ : ByteArray)).size = (Rf.esc Rf.inV x.2.data.toList).length := rfl
      have c5 := bldWrite h4 ⟨(Rf.esc Rf.inV x.2.data.toList).toArray⟩ (by rw [e4, List.length_append, List.length_append, List.length_append]; have h9 := HLE.out; have h3 : x.1.data.toList.length = x.1.size := rfl; show _ + 1 + _ + 2 + _ ≤ _; omega)
      have C5 := hide' c5
      clear C4 hb4 h4 c5 H3 z1
      go_wp2_with fail
      refine C5.out.mono ?_
      rintro e w5 ⟨rfl, h5, _⟩
      have c6 := bldWrite h5 ⟨#[34]⟩ (by rw [List.length_append, List.length_append, List.length_append, List.length_append]; have h9 := HLE.out; have h3 : x.1.data.toList.length = x.1.size := rfl; show _ + 1 + _ + 2 + _ + 1 ≤ _; omega)
      have C6 := hide' c6
      clear C5 h5 c6
      go_wp2_with fail
      refine C6.out.mono ?_
      rintro e w6 ⟨rfl, h6, _⟩
      have H6 : Hid (Tr.Bld w.heap.size w (Tr.stp nm ats (i + 1)) w6) := by
        have e6 : Tr.stp nm ats (i + 1) = Tr.stp nm ats i ++ (⟨#[32]⟩ : ByteArray).data.toList ++ x.1.data.toList ++ (⟨#[61, 34]⟩ : ByteArray).data.toList ++ (⟨(Rf.esc Rf.inV x.2.data.toList).toArray⟩ : ByteArray).data.toList ++ (⟨#[34]⟩ : ByteArray).data.toList := by
          rw [HSU.out]
          simp [Tr.atB]
        rw [e6]
        exact h6
      clear C6 h6
      go_wp2_with fail
      exact ⟨⟨i + 1, rfl, HLT.out, H6⟩, by have := HLT.out; simp [RowKit.intOf]; omega⟩
    · have t1 : ¬ (i : Int) < (n : Int) := by omega
      obtain rfl : i = n := by omega
      have hll := HL.out
      have hzz := HSZ.out
      have c1 := bldWrite HB.out ⟨#[62]⟩ (by show _ + 1 ≤ _; omega)
      have C1 := hide' c1
      clear c1 HA HS CV hll hzz
      go_wp2_with fail
      refine C1.out.mono ?_
      rintro e w1 ⟨rfl, h1, _⟩
      have cT := Tryd.Builder_String_any_k w.heap.size w.heap.size _ w1 h1.out (Nat.le_of_lt h1.lt)
      have CT := hide' cT
      have H1 := hide' h1
      clear C1 h1 cT
      go_wp2_with fail
      refine CT.out.mono ?_
      rintro e w2 ⟨rfl, _, hb2, _⟩
      clear CT
      go_wp2_with fail
      go_ret
      exact ⟨by unfold Tr.stag; rw [HN.out]; rfl, H1.out.bel.trans hb2⟩
end Go.Proofs.YtcmjipgigkalcaaDoor
/-
  WALKS over canon.Event and canon.Print.
-/
namespace Go.Proofs.YtcmjipgigkalcaaDoor
open Go.RowKit Go.Lib
namespace Tr
theorem mk_self (s : ByteArray) : (ByteArray.mk s.data.toList.toArray) = s := by cases s; rfl
end Tr
set_option maxHeartbeats 2000000 in
theorem trEvent (e : Tr.Ev Value) (w : World) (hs : Tr.Tiny e) (hA : Tr.AtRow w e.av e.ats) (hl : (Tr.evB e).length ≤ 70368744177664) :
    Calls Tryd.prog 46 #[.agg e.cs] w fun r w' => r = .returned (.string ⟨(Tr.evB e).toArray⟩) ∧ Below w.heap.size w w' := by
  obtain ⟨kind, num, dep, nm, av, ats, tx, fr, be⟩ := e
  obtain ⟨s1, s2, s3, s4⟩ := hs
  unfold Tr.evB at hl ⊢
  dsimp only at hA s1 s2 s3 s4 hl ⊢
  show Calls Tryd.prog 46 #[.agg #[.int .i64 kind, .int .i64 num, .int .i64 dep, .string nm, av, .string tx, .int .i64 fr, .int .i64 be]] w _
  have hb := (Below.refl w.heap.size w).alloc (Nat.le_refl _) (.cells #[.int .i64 kind, .int .i64 num, .int .i64 dep, .string nm, av, .string tx, .int .i64 fr, .int .i64 be] 39)
  by_cases k0 : kind = 0
  · rw [if_pos k0] at hl ⊢
    have c := trStartTag nm av ats _ (hA.below hb (Nat.le_refl _)) s4 hl
    subst k0
    have HB := hide' hb
    have HC := hide' c
    clear hb c hA s1 s2 s3 s4 hl
    go_enter Tryd.func46, Tryd.ntmps46
    go_wp2_with fail
    refine HC.out.mono ?_
    rintro e w1 ⟨rfl, hb1⟩
    have HD := hide' (HB.out.trans (hb1.mono HB.out.size))
    clear hb1 HC
    go_wp2
    go_ret
    exact ⟨rfl, HD.out⟩
  rw [if_neg k0] at hl ⊢
  by_cases k1 : kind = 1
  · rw [if_pos k1] at hl ⊢
    have c := rfText_any tx.data.toList (w.alloc (.cells #[.int .i64 kind, .int .i64 num, .int .i64 dep, .string nm, av, .string tx, .int .i64 fr, .int .i64 be] 39)) (by have h3 : tx.data.toList.length = tx.size := rfl; omega)
    rw [Tr.mk_self] at c
    subst k1
    have HB := hide' hb
    have HC := hide' c
    clear hb c hA s1 s2 s3 s4 hl k0
    go_enter Tryd.func46, Tryd.ntmps46
    go_wp2_with fail
    refine HC.out.mono ?_
    rintro e w1 ⟨rfl, hb1⟩
    have HD := hide' (HB.out.trans (hb1.mono HB.out.size))
    clear hb1 HC
    go_wp2
    go_ret
    exact ⟨rfl, HD.out⟩
  rw [if_neg k1] at hl ⊢
  have HB := hide' hb
  clear hb hA s2 s3 s4 hl
  by_cases k2 : kind = 2
  · rw [if_pos k2]
    subst k2
    have z1 : 2 + nm.size ≤ 9223372036854775807 := by omega
    have z2 : 2 + nm.size + 1 ≤ 9223372036854775807 := by omega
    clear s1 k0 k1
    go_enter Tryd.func46, Tryd.ntmps46
    go_wp2
    go_ret
    refine ⟨?_, HB.out⟩
    show Ending.returned (.string _) = _
    congr 2
  · rw [if_neg k2]
    clear s1
    go_enter Tryd.func46, Tryd.ntmps46
    go_wp2
    go_ret
    exact ⟨rfl, HB.out⟩
set_option maxRecDepth 100000 in
set_option maxHeartbeats 4000000 in
theorem trPrint (v : Value) (n : Nat) (E : Nat → Tr.Ev Value) (w : World) (hE : Tr.Evs w v n E) (hs : ∀ i, i < n → Tr.Tiny (E i)) (hn : n ≤ 1048576) (hl : (Tr.evsB E n).length ≤ 70368744177664) :
    Calls Tryd.prog 34 #[v] w fun r w' => r = .returned (.string ⟨(Tr.evsB E n).toArray⟩) ∧ Below w.heap.size w w' := by
  have hav : ∀ i, i < n → ∃ pa na ca, (E i).av = .slice pa na ca := fun i h => by
    obtain ⟨pa, ca, e, _⟩ := hE.att i h
    exact ⟨pa, _, ca, e⟩
  have hle : ∀ i, i < n → (Tr.evsB E i).length + (Tr.evB (E i)).length ≤ 70368744177664 := fun i h => by
    have h1 := Tr.evsB_le E (i + 1) (n - (i + 1))
    rw [show i + 1 + (n - (i + 1)) = n by omega] at h1
    have h2 : (Tr.evsB E (i + 1)).length = (Tr.evsB E i).length + (Tr.evB (E i)).length := by show (Tr.evsB E i ++ _).length = _; rw [List.length_append]
    omega
  have cE : ∀ (i : Nat) W, i < n → Below w.heap.size w W → _ := fun i W h hb => trEvent (E i) W (hs i h) ((hE.att i h).below hb (Nat.le_refl _)) (by have := hle i h; omega)
  have hrow := hE.row.at
  obtain ⟨p0, cap0, rfl, r1, r2, _⟩ := hE.row
  have hst := Tr.Bld.start w
  have CE := hide' cE
  have HR := hide' hrow
  have HV := hide' hav
  have HLE := hide' hle
  have HST := hide' hst
  clear hE hs cE hrow hav hle hst hl
  go_enter Tryd.func34, Tryd.ntmps34
  go_wp2_with fail
  go_loopw [8] (fun v wr => ∃ i : Nat, v = .int .i64 i ∧ i ≤ n ∧ Hid (Tr.Bld w.heap.size w (Tr.evsB E i) wr)) (fun v _ => n - (RowKit.intOf v).toNat)
  case atStart => exact ⟨0, rfl, Nat.zero_le _, HST⟩
  case round =>
    obtain ⟨i, rfl, hi, HB⟩ := hrel
    clear HST
    by_cases hlt : i < n
    · have t1 : (i : Int) < (n : Int) := by omega
      obtain ⟨b0, o0, cap0', e0, r1', r2', ka⟩ := HR.out (by omega)
      obtain ⟨rfl, rfl⟩ : p0 = some ⟨b0, o0, none⟩ ∧ cap0 = cap0' := by cases e0; exact ⟨rfl, rfl⟩
      obtain ⟨k0, k1, k2, k3, k4, k5, k6, k7⟩ := ka i hlt
      have kk : ∀ {a : Addr} {u}, w.cell? a = some u → wr.cell? a = some u := fun {a u} hu => (HB.out.bel.cell (p := a) (block_lt_of_cell hu)).trans hu
      have q0 := kk k0
      have q1 := kk k1
      have q2 := kk k2
      have q3 := kk k3
      have q4 := kk k4
      have q5 := kk k5
      have q6 := kk k6
      have q7 := kk k7
      have hrA : Below wr.heap.size wr (wr.alloc (.cells (E i).cs 39)) := (Below.refl _ _).alloc (Nat.le_refl _) _
      have hB0 := HB.out.below hrA
      have hbx := Tr.Box.new wr (E i) 39
      have cEi := CE.out i _ hlt hB0.bel
      have hav := HV.out i hlt
      have hle := HLE.out i hlt
      have hsu : Tr.evsB E (i + 1) = Tr.evsB E i ++ Tr.evB (E i) := rfl
      obtain ⟨e, he⟩ : ∃ e, E i = e := ⟨_, rfl⟩
      simp only [he] at q0 q1 q2 q3 q4 q5 q6 q7 hav hB0 hbx cEi hle hsu
      clear k0 k1 k2 k3 k4 k5 k6 k7 kk ka CE HR HV he e0 hrA
      obtain ⟨kind, num, dep, nm, av, ats, tx, fr, be⟩ := e
      dsimp only at hav
      obtain ⟨pa, na, ca, rfl⟩ := hav
      simp only [Tr.Ev.cs] at hB0 hbx cEi
      dsimp only at q0 q1 q2 q3 q4 q5 q6 q7
      obtain ⟨l, hl⟩ : ∃ l, Tr.evB (⟨kind, num, dep, nm, .slice pa na ca, ats, tx, fr, be⟩ : Tr.Ev Value) = l := ⟨_, rfl⟩
      rw [hl] at cEi hle hsu
      obtain ⟨z0, z1, z2, z3, z4, z5, z6, z7⟩ := hbx
      have HB0 := hide' hB0
      have CE := hide' cEi
      have HLT := hide' hlt
      have HLI := hide' hle
      have HSU := hide' hsu
      clear hB0 cEi hlt hle hsu hl
      go_wp2_with fail
      refine CE.out.mono ?_
      rintro r w1 ⟨rfl, hb1⟩
      have c2 := bldWrite (HB0.out.below hb1) ⟨l.toArray⟩ (by have := HLI.out; show _ + l.length ≤ _; omega)
      have C2 := hide' c2
      clear c2 hb1 CE z0 z1 z2 z3 z4 z5 z6 z7 q0 q1 q2 q3 q4 q5 q6 q7
      go_wp2_with fail
      refine C2.out.mono ?_
      rintro r w2 ⟨rfl, h2, _⟩
      have H2 : Hid (Tr.Bld w.heap.size w (Tr.evsB E (i + 1)) w2) := by
        rw [HSU.out]
        exact h2
      clear h2 C2
      go_wp2_with fail
      exact ⟨⟨i + 1, rfl, HLT.out, H2⟩, by have := HLT.out; simp [RowKit.intOf]; omega⟩
    · have t1 : ¬ (i : Int) < (n : Int) := by omega
      obtain rfl : i = n := by omega
      have cT := Tryd.Builder_String_any_k w.heap.size w.heap.size _ wr HB.out.out (Nat.le_of_lt HB.out.lt)
      have CT := hide' cT
      clear cT CE HR HV HLE
      go_wp2_with fail
      refine CT.out.mono ?_
      rintro e w2 ⟨rfl, _, hb2, _⟩
      clear CT
      go_wp2_with fail
      go_ret
      exact ⟨rfl, HB.out.bel.trans hb2⟩
end Go.Proofs.YtcmjipgigkalcaaDoor
/-
  WALKS over (*tree.Tree).Print of the root above, gimletlaw09.small and awake.
-/
namespace Go.Proofs.YtcmjipgigkalcaaDoor
open Go.RowKit Go.Lib
namespace Tr
theorem Alike.evB {n : Nat} {E E' : Nat → Ev Value} (h : Alike n E E') (i : Nat) (hi : i < n) : Tr.evB (E' i) = Tr.evB (E i) := by
  obtain ⟨f1, f2, f3, f4, f5, f6, f7, f8⟩ := h.fields i hi
  unfold Tr.evB
  rw [f1, f4, f5, f6]
theorem Alike.evsB {n : Nat} {E E' : Nat → Ev Value} (h : Alike n E E') : ∀ i, i ≤ n → Tr.evsB E' i = Tr.evsB E i
  | 0, _ => rfl
  | i + 1, hi => by
    show Tr.evsB E' i ++ Tr.evB (E' i) = Tr.evsB E i ++ Tr.evB (E i)
    rw [h.evsB i (by omega), h.evB i (by omega)]
theorem Alike.tx1 {n nd : Nat} {E E' : Nat → Ev Value} (h : Alike n E E') (hs : Shape E (Tr.grun E n) nd n) (k : Int) (hk : k < nd) : Tr.tx1 E' n k = Tr.tx1 E n k := by
  unfold Tr.tx1
  rw [h.grun n (Nat.le_refl _)]
  split
  · obtain ⟨f, e, hf, _⟩ := hs.evt k.toNat (by omega)
    rw [e, Int.toNat_natCast, (h.fields f hf).2.2.2.2.2.1]
  · rfl
theorem Alike.vtx {n nd : Nat} {E E' : Nat → Ev Value} (h : Alike n E E') (hs : Shape E (Tr.grun E n) nd n) (l : List Int) (hl : ∀ k ∈ l, k < (nd : Int)) : Tr.vtx E' n l = Tr.vtx E n l := by
  unfold Tr.vtx
  induction l with
  | nil => rfl
  | cons k l ih =>
    rw [List.flatMap_cons, List.flatMap_cons, ih (fun x hx => hl x (List.mem_cons_of_mem _ hx)), h.tx1 hs k (hl k (List.mem_cons_self ..))]
theorem Alike.small {n : Nat} {E E' : Nat → Ev Value} (h : Alike n E E') (hs : ∀ i, i < n → Small (E i)) : ∀ i, i < n → Small (E' i) := fun i hi => by
  obtain ⟨f1, f2, f3, f4, f5, f6, f7, f8⟩ := h.fields i hi
  unfold Small
  rw [f4, f5, f6]
  exact hs i hi
theorem Alike.tiny {n : Nat} {E E' : Nat → Ev Value} (h : Alike n E E') (hs : ∀ i, i < n → Tiny (E i)) : ∀ i, i < n → Tiny (E' i) := fun i hi => by
  obtain ⟨f1, f2, f3, f4, f5, f6, f7, f8⟩ := h.fields i hi
  unfold Tiny
  rw [f4, f5, f6]
  exact hs i hi
theorem Alike.symm {n : Nat} {E E' : Nat → Ev Value} (h : Alike n E E') : Alike n E' E := fun i hi => by
  rw [h i hi]
/-- <a>x</a>, as events -/
def smE : Nat → Ev Value
  | 0 => ⟨0, 0, 1, ⟨#[97]⟩, .slice none 0 0, [], ⟨#[]⟩, 0, 3⟩
  | 1 => ⟨1, 1, 2, ⟨#[]⟩, .slice none 0 0, [], ⟨#[120]⟩, 3, 8⟩
  | _ => ⟨2, 0, 1, ⟨#[97]⟩, .slice none 0 0, [], ⟨#[]⟩, 0, 8⟩
def smC : Array Value := #[.int .i64 0, .int .i64 0, .int .i64 1, .string ⟨#[97]⟩, .slice none 0 0, .string ⟨#[]⟩, .int .i64 0, .int .i64 3, .int .i64 1, .int .i64 1, .int .i64 2, .string ⟨#[]⟩, .slice none 0 0, .string ⟨#[120]⟩, .int .i64 3, .int .i64 8, .int .i64 2, .int .i64 0, .int .i64 1, .string ⟨#[97]⟩, .slice none 0 0, .string ⟨#[]⟩, .int .i64 0, .int .i64 8]
theorem name_a : nameB ⟨#[97]⟩ = true := by decide +kernel
theorem text_x : textB ⟨#[120]⟩ = true := by decide +kernel
theorem sm_run : drun okB smE 3 = some ⟨[], 2⟩ := by
  have t0 : (ByteArray.mk #[]).toList = [] := by rw [ByteArray.toList_eq]
  have t1 : (ByteArray.mk #[120]).toList = [120] := by rw [ByteArray.toList_eq]
  have o0 : okB (smE 0) = true := by
    show (if (0 : Int) = 0 then isOpenB (smE 0) else isTextB (smE 0)) = true
    rw [if_pos rfl]
    show (decide ((ByteArray.mk #[]).toList = []) && (nameB ⟨#[97]⟩ && true)) = true
    rw [t0, name_a]
    rfl
  have o1 : okB (smE 1) = true := by
    show (if (1 : Int) = 0 then isOpenB (smE 1) else isTextB (smE 1)) = true
    rw [if_neg (by decide)]
    show (decide ((ByteArray.mk #[]).toList = []) && (true && (!decide ((ByteArray.mk #[120]).toList = []) && textB ⟨#[120]⟩))) = true
    rw [t0, t1, text_x]
    rfl
  have c2 : closes (smE 2) (smE 0) = true := by
    show (true && (true && (decide ((ByteArray.mk #[97]).toList = (ByteArray.mk #[97]).toList) && (true && decide ((ByteArray.mk #[]).toList = []))))) = true
    rw [t0]
    simp
  have s1 : drun okB smE 1 = some ⟨[0], 1⟩ := by
    show dstep okB smE ⟨[], 0⟩ 0 = _
    unfold dstep
    rw [if_neg (by simp), if_pos (show (smE 0).kind = 0 from rfl), if_pos ⟨rfl, rfl, o0⟩]
    rfl
  have s2 : drun okB smE 2 = some ⟨[0], 2⟩ := by
    unfold drun
    rw [s1]
    show dstep okB smE ⟨[0], 1⟩ 1 = _
    unfold dstep
    rw [if_neg (by simp), if_neg (by decide), if_pos (show (smE 1).kind = 1 from rfl), if_pos ⟨by simp, by decide, rfl, rfl, o1⟩]
  unfold drun
  rw [s2]
  show dstep okB smE ⟨[0], 2⟩ 2 = _
  unfold dstep
  rw [if_neg (by simp), if_neg (by decide), if_neg (by decide), if_pos (show (smE 2).kind = 2 from rfl)]
  show (if closes (smE 2) (smE 0) = true then some (Ds.mk [] 2) else none) = _
  rw [if_pos c2]
theorem sm_doc : doc okB smE 3 = true := by
  unfold doc
  rw [sm_run]
  rfl
theorem sm_tiny : ∀ i, i < 3 → Tiny (smE i) := by
  intro i hi
  match i, hi with
  | 0, _ => exact ⟨by decide, by decide, by decide, fun x hx => by cases hx⟩
  | 1, _ => exact ⟨by decide, by decide, by decide, fun x hx => by cases hx⟩
  | 2, _ => exact ⟨by decide, by decide, by decide, fun x hx => by cases hx⟩
theorem sm_small : ∀ i, i < 3 → Small (smE i) := fun i hi => (sm_tiny i hi).small
theorem sm_evs (w : World) : Evs (w.alloc (.cells smC 39)) (.slice (some ⟨w.heap.size, 0, none⟩) 3 3) 3 smE := by
  have hb : (w.alloc (.cells smC 39)).heap[w.heap.size]? = some (.cells smC 39 (0, 0)) := heap_alloc_new w _
  refine ⟨⟨_, 3, rfl, Nat.le_refl _, by decide, (fun e => by cases e), fun _ => ⟨w.heap.size, 0, rfl, fun i j u hi hu => ?_⟩⟩, fun i hi => ?_⟩
  · rw [Lib.cell_of_heap hb]
    have hj : j < 8 := by
      have := (Array.getElem?_eq_some_iff.1 hu).1
      exact this
    rw [← hu]
    have hall : ∀ i : Fin 3, ∀ j : Fin 8, smC[0 + i.val * 8 + j.val]? = (smE i.val).cs[j.val]? := by
      intro i j
      match i, j with
      | 0, 0 | 0, 1 | 0, 2 | 0, 3 | 0, 4 | 0, 5 | 0, 6 | 0, 7 | 1, 0 | 1, 1 | 1, 2 | 1, 3 | 1, 4 | 1, 5 | 1, 6 | 1, 7 | 2, 0 | 2, 1 | 2, 2 | 2, 3 | 2, 4 | 2, 5 | 2, 6 | 2, 7 => rfl
    exact hall ⟨i, hi⟩ ⟨j, hj⟩
  · have e : (smE i).av = .slice none 0 0 ∧ (smE i).ats = [] := by
      match i, hi with
      | 0, _ => exact ⟨rfl, rfl⟩
      | 1, _ => exact ⟨rfl, rfl⟩
      | 2, _ => exact ⟨rfl, rfl⟩
    rw [e.1, e.2]
    exact ⟨none, 0, rfl, Nat.le_refl _, by decide, fun _ => rfl, fun h => absurd h (by decide)⟩
theorem sm_nd : (grun smE 3).ns.length = 2 := by decide +kernel
theorem sm_val : vtx smE 3 (numL 0 2) = [120] := by decide +kernel
theorem sm_bh : bh smE 3 2 0 = 2 := by decide +kernel
theorem sm_txt : evsB smE 3 = [60, 97, 62, 120, 60, 47, 97, 62] := by decide +kernel
end Tr
set_option maxHeartbeats 1000000 in
theorem trSmall (w : World) : Calls Tryd.prog 22 #[] w fun r w' => r = .returned (.slice (some ⟨w.heap.size, 0, none⟩) 3 3) ∧ w' = w.alloc (.cells Tr.smC 39) := by
  go_enter Tryd.func22, Tryd.ntmps22
  go_wp2
  go_ret
  exact ⟨rfl, rfl⟩
set_option maxHeartbeats 1000000 in
theorem trPrintAll (w : World) (B D n : Nat) (E : Nat → Tr.Ev Value) (L q cap nd : Nat) (h : Tr.TreeR w B D n E L q cap nd) (hs : ∀ i, i < n → Tr.Tiny (E i)) (hn : n ≤ 1048576) (hl : (Tr.evsB E n).length ≤ 70368744177664) :
    Calls Tryd.prog 16 #[.pointer (some ⟨D, 0, none⟩), .int .i64 (-1)] w fun e w' => e = .returned (.tuple #[.string ⟨(Tr.evsB E n).toArray⟩, .int .i64 0]) ∧ Below w.heap.size w w' := by
  have cL := trLacks w B D n E L q cap nd h (-1) (-1)
  rw [if_neg (by omega)] at cL
  have cP := trPrint _ n E w h.evs hs hn hl
  have c0 := h.c0
  have CP := hide' cP
  clear h hs hl cP
  go_enter Tryd.func16, Tryd.ntmps16
  go_wp2_with fail
  refine cL.mono ?_
  rintro e w1 ⟨rfl, rfl⟩
  clear cL
  go_wp2_with fail
  refine CP.out.mono ?_
  rintro e w1 ⟨rfl, hb1⟩
  go_wp2_with fail
  go_ret2
  exact ⟨rfl, hb1⟩
set_option maxHeartbeats 2000000 in
theorem trAwake (w : World) (hS : Spans w) (hT : Lib.Utf8Tabs 1 2 w) :
    Calls Tryd.prog 4 #[] w fun r w' => r = .returned (.bool true) ∧ Below w.heap.size w w' := by
  have c1 := trSmall w
  have hb0 : Below w.heap.size w (w.alloc (.cells Tr.smC 39)) := (Below.refl _ _).alloc (Nat.le_refl _) _
  have c2 := trBuild _ 3 Tr.smE _ (Tr.sm_evs w) Tr.sm_small (by decide) (hS.below hb0 (Nat.le_refl _)) (tabs_below hT hb0 (Nat.le_refl _))
  have HB0 := hide' hb0
  have C2 := hide' c2
  clear c2 hb0 hS hT
  go_enter Tryd.func4, Tryd.ntmps4
  go_wp2_with fail
  refine c1.mono ?_
  rintro e w1 ⟨rfl, rfl⟩
  clear c1
  go_wp2_with fail
  refine C2.out.mono ?_
  rintro e w2 ⟨hb2, hr⟩
  rcases hr with ⟨hd, _⟩ | ⟨_, D, E, L, q, cap, nd, rfl, hA, hR⟩
  · rw [Tr.sm_doc] at hd
    cases hd
  have hnd : nd = 2 := by
    have h1 := hR.shp.len
    rw [hA.grun 3 (Nat.le_refl _), Tr.sm_nd] at h1
    exact h1.symm
  subst hnd
  have hsh : Tr.Shape Tr.smE (Tr.grun Tr.smE 3) 2 3 := by
    obtain ⟨nd, e, h⟩ := Tr.doc_shape Tr.sm_doc
    rw [Tr.sm_run] at e
    cases e
    exact h
  have hsm := hA.tiny Tr.sm_tiny
  have ebh : Tr.bh E 3 2 0 = 2 := by
    rw [← Tr.sm_bh]
    unfold Tr.bh
    rw [hA.grun 3 (Nat.le_refl _)]
  have c3 := trLen w2 _ D 3 E L q cap 2 hR
  have c4 := trValue w2 _ D 3 E L q cap 2 hR hsm (by decide) 0 (by decide) (by decide)
  rw [ebh, hA.vtx hsh _ (fun k hk => by
    simp only [Tr.numL, List.mem_map, List.mem_range] at hk
    obtain ⟨j, h1, rfl⟩ := hk
    omega), Tr.sm_val] at c4
  have etx : Tr.evsB E 3 = [60, 97, 62, 120, 60, 47, 97, 62] := by rw [hA.evsB 3 (Nat.le_refl _), Tr.sm_txt]
  have c5 : ∀ w3, Below w2.heap.size w2 w3 → _ := fun w3 hb => trPrintAll w3 _ D 3 E L q cap 2 (hR.below hb) hsm (by decide) (by rw [etx]; decide)
  rw [etx] at c5
  have HB2 := hide' (HB0.out.trans (hb2.mono HB0.out.size))
  have C3 := hide' c3
  have C4 := hide' c4
  have C5 := hide' c5
  clear c3 c4 c5 hb2 hA hR hsh hsm ebh etx C2
  go_wp2_with fail
  refine C3.out.mono ?_
  rintro e w3 ⟨rfl, rfl⟩
  go_wp2_with fail
  refine C4.out.mono ?_
  rintro e w3 ⟨rfl, hb3⟩
  have HB3 := hide' hb3
  clear hb3
  go_wp2_with fail
  refine (C5.out w3 HB3.out).mono ?_
  rintro e w4 ⟨rfl, hb4⟩
  have HB4 := hide' hb4
  clear hb4
  go_wp2_with fail
  go_ret
  exact ⟨rfl, (HB2.out.trans (HB3.out.mono HB2.out.size)).trans (HB4.out.mono (Nat.le_trans HB2.out.size HB3.out.size))⟩
end Go.Proofs.YtcmjipgigkalcaaDoor
