import Derived.Test.YtcmjipgigkalcaaDoorTrAwake
import Derived.Lib.AppendStr
/-
  WALKS over the document's sign of layer 9.
-/
namespace Go.Proofs.YtcmjipgigkalcaaDoor
open Go.RowKit Go.Shelf Go.Lib
theorem convOne (x : UInt8) (c : Nat) (w : World) : (convert 69 9 (.slice (some ⟨w.heap.size, 0, none⟩) 1 c)).run Tryd.prog (w.alloc (.cells #[.int .u8 x.toNat] 5)) = .ok (.string ⟨[x].toArray⟩) (w.alloc (.cells #[.int .u8 x.toNat] 5)) := by
  refine run_convert_bytes_back (P := Tryd.prog) _ 69 9 5 ⟨w.heap.size, 0, none⟩ c [x] Tryd.underlying69 Tryd.underlying5 Tryd.underlying9 (fun j hj => ?_)
  match j, hj with
  | 0, _ =>
    show World.cell? _ ⟨w.heap.size, 0, none⟩ = _
    rw [Lib.cell_of_heap (heap_alloc_new w _)]
    rfl
set_option maxHeartbeats 1000000 in
theorem refSignT (x : UInt8) (w : World) : Calls Tryd.prog 70 #[.int .u8 x.toNat, .bool false] w fun e w' => e = .returned (.string ⟨(Rf.one Rf.inT x).toArray⟩) ∧ Below w.heap.size w w' := by
  obtain ⟨n, hn⟩ : ∃ n, x.toNat = n := ⟨_, rfl⟩
  by_cases h38 : n = 38
  · have e38 : ((n : Int) == 38) = true := by simp; omega
    have eF : Rf.one Rf.inT x = [38, 97, 109, 112, 59] := by unfold Rf.one; rw [hn, h38]; rfl
    rw [eF, hn]
    clear h38 eF
    go_enter Tryd.func70, Tryd.ntmps70
    go_wp2
    go_ret
    exact ⟨rfl, Below.refl _ _⟩
  by_cases h60 : n = 60
  · have e38 : ((n : Int) == 38) = false := by simp; omega
    have e60 : ((n : Int) == 60) = true := by simp; omega
    have eF : Rf.one Rf.inT x = [38, 108, 116, 59] := by unfold Rf.one; rw [hn, h60]; rfl
    rw [eF, hn]
    clear h38 h60 eF
    go_enter Tryd.func70, Tryd.ntmps70
    go_wp2
    go_ret
    exact ⟨rfl, Below.refl _ _⟩
  by_cases h13 : n = 13
  · have e38 : ((n : Int) == 38) = false := by simp; omega
    have e60 : ((n : Int) == 60) = false := by simp; omega
    have e13 : ((n : Int) == 13) = true := by simp; omega
    have eF : Rf.one Rf.inT x = [38, 35, 120, 68, 59] := by unfold Rf.one; rw [hn, h13]; rfl
    rw [eF, hn]
    clear h38 h60 h13 eF
    go_enter Tryd.func70, Tryd.ntmps70
    go_wp2
    go_ret
    exact ⟨rfl, Below.refl _ _⟩
  by_cases h62 : n = 62
  · have e38 : ((n : Int) == 38) = false := by simp; omega
    have e60 : ((n : Int) == 60) = false := by simp; omega
    have e13 : ((n : Int) == 13) = false := by simp; omega
    have e62 : ((n : Int) == 62) = true := by simp; omega
    have eF : Rf.one Rf.inT x = [38, 103, 116, 59] := by unfold Rf.one; rw [hn, h62]; rfl
    rw [eF, hn]
    clear h38 h60 h13 h62 eF
    go_enter Tryd.func70, Tryd.ntmps70
    go_wp2
    go_ret
    exact ⟨rfl, Below.refl _ _⟩
  have e38 : ((n : Int) == 38) = false := by simp; omega
  have e60 : ((n : Int) == 60) = false := by simp; omega
  have e13 : ((n : Int) == 13) = false := by simp; omega
  have e62 : ((n : Int) == 62) = false := by simp; omega
  have eF : Rf.one Rf.inT x = [x] := by unfold Rf.one Rf.inT; rw [hn]; simp [h38, h60, h13, h62]
  rw [eF, hn]
  clear h38 h60 h13 h62 eF
  have hc : ∀ c, (convert 69 9 (.slice (some ⟨w.heap.size, 0, none⟩) 1 c)).run Tryd.prog (w.alloc (.cells #[.int .u8 n] 5)) = .ok (.string ⟨[x].toArray⟩) (w.alloc (.cells #[.int .u8 n] 5)) := fun c => by rw [← hn]; exact convOne x c w
  go_enter Tryd.func70, Tryd.ntmps70
  go_wp2
  go_ret
  exact ⟨rfl, (Below.refl _ _).alloc (Nat.le_refl _) _⟩
set_option maxHeartbeats 1000000 in
theorem refSignV (x : UInt8) (w : World) : Calls Tryd.prog 70 #[.int .u8 x.toNat, .bool true] w fun e w' => e = .returned (.string ⟨(Rf.one Rf.inV x).toArray⟩) ∧ Below w.heap.size w w' := by
  obtain ⟨n, hn⟩ : ∃ n, x.toNat = n := ⟨_, rfl⟩
  by_cases h38 : n = 38
  · have e38 : ((n : Int) == 38) = true := by simp; omega
    have eF : Rf.one Rf.inV x = [38, 97, 109, 112, 59] := by unfold Rf.one; rw [hn, h38]; rfl
    rw [eF, hn]
    clear h38 eF
    go_enter Tryd.func70, Tryd.ntmps70
    go_wp2
    go_ret
    exact ⟨rfl, Below.refl _ _⟩
  by_cases h60 : n = 60
  · have e38 : ((n : Int) == 38) = false := by simp; omega
    have e60 : ((n : Int) == 60) = true := by simp; omega
    have eF : Rf.one Rf.inV x = [38, 108, 116, 59] := by unfold Rf.one; rw [hn, h60]; rfl
    rw [eF, hn]
    clear h38 h60 eF
    go_enter Tryd.func70, Tryd.ntmps70
    go_wp2
    go_ret
    exact ⟨rfl, Below.refl _ _⟩
  by_cases h13 : n = 13
  · have e38 : ((n : Int) == 38) = false := by simp; omega
    have e60 : ((n : Int) == 60) = false := by simp; omega
    have e13 : ((n : Int) == 13) = true := by simp; omega
    have eF : Rf.one Rf.inV x = [38, 35, 120, 68, 59] := by unfold Rf.one; rw [hn, h13]; rfl
    rw [eF, hn]
    clear h38 h60 h13 eF
    go_enter Tryd.func70, Tryd.ntmps70
    go_wp2
    go_ret
    exact ⟨rfl, Below.refl _ _⟩
  by_cases h34 : n = 34
  · have e38 : ((n : Int) == 38) = false := by simp; omega
    have e60 : ((n : Int) == 60) = false := by simp; omega
    have e13 : ((n : Int) == 13) = false := by simp; omega
    have e34 : ((n : Int) == 34) = true := by simp; omega
    have eF : Rf.one Rf.inV x = [38, 113, 117, 111, 116, 59] := by unfold Rf.one; rw [hn, h34]; rfl
    rw [eF, hn]
    clear h38 h60 h13 h34 eF
    go_enter Tryd.func70, Tryd.ntmps70
    go_wp2
    go_ret
    exact ⟨rfl, Below.refl _ _⟩
  by_cases h9 : n = 9
  · have e38 : ((n : Int) == 38) = false := by simp; omega
    have e60 : ((n : Int) == 60) = false := by simp; omega
    have e13 : ((n : Int) == 13) = false := by simp; omega
    have e34 : ((n : Int) == 34) = false := by simp; omega
    have e9 : ((n : Int) == 9) = true := by simp; omega
    have eF : Rf.one Rf.inV x = [38, 35, 120, 57, 59] := by unfold Rf.one; rw [hn, h9]; rfl
    rw [eF, hn]
    clear h38 h60 h13 h34 h9 eF
    go_enter Tryd.func70, Tryd.ntmps70
    go_wp2
    go_ret
    exact ⟨rfl, Below.refl _ _⟩
  by_cases h10 : n = 10
  · have e38 : ((n : Int) == 38) = false := by simp; omega
    have e60 : ((n : Int) == 60) = false := by simp; omega
    have e13 : ((n : Int) == 13) = false := by simp; omega
    have e34 : ((n : Int) == 34) = false := by simp; omega
    have e9 : ((n : Int) == 9) = false := by simp; omega
    have e10 : ((n : Int) == 10) = true := by simp; omega
    have eF : Rf.one Rf.inV x = [38, 35, 120, 65, 59] := by unfold Rf.one; rw [hn, h10]; rfl
    rw [eF, hn]
    clear h38 h60 h13 h34 h9 h10 eF
    go_enter Tryd.func70, Tryd.ntmps70
    go_wp2
    go_ret
    exact ⟨rfl, Below.refl _ _⟩
  have e38 : ((n : Int) == 38) = false := by simp; omega
  have e60 : ((n : Int) == 60) = false := by simp; omega
  have e13 : ((n : Int) == 13) = false := by simp; omega
  have e34 : ((n : Int) == 34) = false := by simp; omega
  have e9 : ((n : Int) == 9) = false := by simp; omega
  have e10 : ((n : Int) == 10) = false := by simp; omega
  have eF : Rf.one Rf.inV x = [x] := by unfold Rf.one Rf.inV; rw [hn]; simp [h38, h60, h13, h34, h9, h10]
  rw [eF, hn]
  clear h38 h60 h13 h34 h9 h10 eF
  have hc : ∀ c, (convert 69 9 (.slice (some ⟨w.heap.size, 0, none⟩) 1 c)).run Tryd.prog (w.alloc (.cells #[.int .u8 n] 5)) = .ok (.string ⟨[x].toArray⟩) (w.alloc (.cells #[.int .u8 n] 5)) := fun c => by rw [← hn]; exact convOne x c w
  go_enter Tryd.func70, Tryd.ntmps70
  go_wp2
  go_ret
  exact ⟨rfl, (Below.refl _ _).alloc (Nat.le_refl _) _⟩
end Go.Proofs.YtcmjipgigkalcaaDoor
/-
  WALKS over the document's Text and Quoted of layer 9.
-/
namespace Go.Proofs.YtcmjipgigkalcaaDoor
open Go.RowKit Go.Shelf Go.Lib
namespace Tr
theorem infoByte9 : (Tryd.prog.info? 5).map (fun i => (i.zero, i.size, i.bytes)) = some (some (.int .u8 0), 1, 1) := by kernel_rfl
theorem ownsBelow {w w' : World} {B : Nat} {e : TypeId} {k : Nat} {v : Value} {n : Nat} {ys : List Value} (h : w.ownsRow B e k v n ys) (hb : Below w.heap.size w w') : w'.ownsRow B e k v n ys := by
  refine h.kept (row := none) ⟨hb.os, hb.tape, hb.output, hb.size, fun j hj _ => hb.block j hj⟩ ?_
  cases v.ownBlock with
  | none => exact .inl rfl
  | some g => exact .inr (by simp)
/-- a row of bytes, made a string -/
theorem convOwned {w : World} {B : Nat} {v : Value} {l : List UInt8} (h : w.ownsRow B 5 1 v l.length (byteCells l)) : (convert 69 9 v).run Tryd.prog w = .ok (.string ⟨l.toArray⟩) w := by
  rcases h.2 with ⟨rfl, h0⟩ | ⟨g, cap, cur, rfl, hg, hgg, h1, h2, h3, h4⟩
  · obtain rfl : l = [] := List.length_eq_zero_iff.1 h0
    rw [run_convert_bytes_string w 69 9 5 none 0 0 Tryd.underlying69 Tryd.underlying5 Tryd.underlying9]
    rfl
  · have hc := h.cells (g := g) rfl
    exact run_convert_bytes_back (P := Tryd.prog) w 69 9 5 ⟨g, 0, none⟩ cap l Tryd.underlying69 Tryd.underlying5 Tryd.underlying9 (fun j hj => hc j _ (by simp [byteCells, hj]))
end Tr
set_option maxRecDepth 100000 in
set_option maxHeartbeats 2000000 in
theorem refText9 (s : ByteArray) (w : World) (hs : s.size ≤ 1048576) :
    Calls Tryd.prog 60 #[.string s] w fun e w' => e = .returned (.string ⟨(Rf.esc Rf.inT s.data.toList).toArray⟩) ∧ Below w.heap.size w w' := by
  obtain ⟨l, rfl⟩ : ∃ l : List UInt8, s = ⟨l.toArray⟩ := ⟨s.data.toList, (Tr.mk_self s).symm⟩
  obtain ⟨n, hln⟩ : ∃ n, l.length = n := ⟨_, rfl⟩
  have hn : n ≤ 1048576 := by rw [← hln]; exact hs
  clear hs
  rw [show (ByteArray.mk l.toArray).data.toList = l by simp]
  obtain ⟨i0, hi, hz0, hz1, hz2⟩ := info_parts Tr.infoByte9
  go_enter Tryd.func60, Tryd.ntmps60
  go_wp2_with fail
  go_loopw [3, 4] (fun out i wr => ∃ k : Nat, i = .int .i64 k ∧ k ≤ n ∧ wr.ownsRow w.heap.size 5 1 out (Rf.esc Rf.inT (l.take k)).length (byteCells (Rf.esc Rf.inT (l.take k))) ∧ Below w.heap.size w wr) (fun _ i _ => n - (RowKit.intOf i).toNat)
  case atStart => exact ⟨0, rfl, Nat.zero_le _, World.ownsRow_nil _ _ _ _, Below.refl _ _⟩
  case round =>
    obtain ⟨k, rfl, hk, hown, hB⟩ := hrel
    by_cases hlt : k < n
    · have g1 : (k : Int) < n := by omega
      have hal : k < l.length := by omega
      have hst := Rf.esc_take Rf.inT l k hal
      obtain ⟨y, hy⟩ : ∃ y, l[k]'hal = y := ⟨_, rfl⟩
      rw [hy] at hst
      have hix : ∀ h : k < (ByteArray.mk l.toArray).size, (ByteArray.mk l.toArray)[k]'h = y := fun h => strIndex l k hal y hy h
      have hO := Rf.esc_le Rf.inT Rf.inT_le (l.take k)
      have h6 : (Rf.one Rf.inT y).length ≤ 6 := by
        unfold Rf.one
        split
        · simp
        · exact Rf.inT_le _
      simp only [List.length_take] at hO
      generalize Rf.esc Rf.inT (l.take k) = O at *
      have HST := hide' hst
      clear hst hy
      go_wp2_with fail
      refine (refSignT y _).mono ?_
      rintro e w3 ⟨rfl, hb3⟩
      have hown3 := Tr.ownsBelow hown hb3
      have hB3 := hB.trans (hb3.mono hB.size)
      have hbs := hB.size
      have hbs3 := hb3.size
      have hsz : (ByteArray.mk (Rf.one Rf.inT y).toArray).size = (Rf.one Rf.inT y).length := by simp [ByteArray.size]
      generalize Rf.one Rf.inT y = N at *
      go_wp2_with (at_builtin; refine Lib.wpList_append_own_string _ rfl _ _ 69 9 rfl w.heap.size 5 i0 Tryd.underlying69 Tryd.underlying9 hi hz0 hz1 hz2 _ _ _ rfl hown3 ⟨N.toArray⟩ rfl ?c3 ?c4 ?c5 ?_)
      case c3 => unfold maxLen; omega
      case c4 => omega
      case c5 => omega
      intro v' w4 hown' hgrow _
      have hB4 : Below w.heap.size w w4 := hB3.grown hgrow (by omega) (fun j hj => (hown3.lt j hj).1)
      have hown4 : w4.ownsRow w.heap.size 5 1 v' (Rf.esc Rf.inT (l.take (k + 1))).length (byteCells (Rf.esc Rf.inT (l.take (k + 1)))) := by
        rw [HST.out, byteCells_append, List.length_append, ← hsz]
        exact hown'
      clear hown hown' hgrow hown3
      go_wp2_with fail
      go_roundw
      case rel => exact ⟨k + 1, by go_num, by omega, hown4, hB4⟩
      case measure => simp [RowKit.intOf]; omega
    · obtain rfl : k = n := by omega
      have g1 : ¬ ((k : Int) < k) := by omega
      rw [show l.take k = l by rw [← hln]; exact List.take_length] at hown
      have hc := Tr.convOwned hown
      go_wp2_with fail
      go_ret
      exact ⟨rfl, hB⟩
set_option maxRecDepth 100000 in
set_option maxHeartbeats 2000000 in
theorem refQuoted9 (s : ByteArray) (w : World) (hs : s.size ≤ 1048576) :
    Calls Tryd.prog 61 #[.string s] w fun e w' => e = .returned (.string ⟨(Rf.esc Rf.inV s.data.toList).toArray⟩) ∧ Below w.heap.size w w' := by
  obtain ⟨l, rfl⟩ : ∃ l : List UInt8, s = ⟨l.toArray⟩ := ⟨s.data.toList, (Tr.mk_self s).symm⟩
  obtain ⟨n, hln⟩ : ∃ n, l.length = n := ⟨_, rfl⟩
  have hn : n ≤ 1048576 := by rw [← hln]; exact hs
  clear hs
  rw [show (ByteArray.mk l.toArray).data.toList = l by simp]
  obtain ⟨i0, hi, hz0, hz1, hz2⟩ := info_parts Tr.infoByte9
  go_enter Tryd.func61, Tryd.ntmps61
  go_wp2_with fail
  go_loopw [3, 4] (fun out i wr => ∃ k : Nat, i = .int .i64 k ∧ k ≤ n ∧ wr.ownsRow w.heap.size 5 1 out (Rf.esc Rf.inV (l.take k)).length (byteCells (Rf.esc Rf.inV (l.take k))) ∧ Below w.heap.size w wr) (fun _ i _ => n - (RowKit.intOf i).toNat)
  case atStart => exact ⟨0, rfl, Nat.zero_le _, World.ownsRow_nil _ _ _ _, Below.refl _ _⟩
  case round =>
    obtain ⟨k, rfl, hk, hown, hB⟩ := hrel
    by_cases hlt : k < n
    · have g1 : (k : Int) < n := by omega
      have hal : k < l.length := by omega
      have hst := Rf.esc_take Rf.inV l k hal
      obtain ⟨y, hy⟩ : ∃ y, l[k]'hal = y := ⟨_, rfl⟩
      rw [hy] at hst
      have hix : ∀ h : k < (ByteArray.mk l.toArray).size, (ByteArray.mk l.toArray)[k]'h = y := fun h => strIndex l k hal y hy h
      have hO := Rf.esc_le Rf.inV Rf.inV_le (l.take k)
      have h6 : (Rf.one Rf.inV y).length ≤ 6 := by
        unfold Rf.one
        split
        · simp
        · exact Rf.inV_le _
      simp only [List.length_take] at hO
      generalize Rf.esc Rf.inV (l.take k) = O at *
      have HST := hide' hst
      clear hst hy
      go_wp2_with fail
      refine (refSignV y _).mono ?_
      rintro e w3 ⟨rfl, hb3⟩
      have hown3 := Tr.ownsBelow hown hb3
      have hB3 := hB.trans (hb3.mono hB.size)
      have hbs := hB.size
      have hbs3 := hb3.size
      have hsz : (ByteArray.mk (Rf.one Rf.inV y).toArray).size = (Rf.one Rf.inV y).length := by simp [ByteArray.size]
      generalize Rf.one Rf.inV y = N at *
      go_wp2_with (at_builtin; refine Lib.wpList_append_own_string _ rfl _ _ 69 9 rfl w.heap.size 5 i0 Tryd.underlying69 Tryd.underlying9 hi hz0 hz1 hz2 _ _ _ rfl hown3 ⟨N.toArray⟩ rfl ?c3 ?c4 ?c5 ?_)
      case c3 => unfold maxLen; omega
      case c4 => omega
      case c5 => omega
      intro v' w4 hown' hgrow _
      have hB4 : Below w.heap.size w w4 := hB3.grown hgrow (by omega) (fun j hj => (hown3.lt j hj).1)
      have hown4 : w4.ownsRow w.heap.size 5 1 v' (Rf.esc Rf.inV (l.take (k + 1))).length (byteCells (Rf.esc Rf.inV (l.take (k + 1)))) := by
        rw [HST.out, byteCells_append, List.length_append, ← hsz]
        exact hown'
      clear hown hown' hgrow hown3
      go_wp2_with fail
      go_roundw
      case rel => exact ⟨k + 1, by go_num, by omega, hown4, hB4⟩
      case measure => simp [RowKit.intOf]; omega
    · obtain rfl : k = n := by omega
      have g1 : ¬ ((k : Int) < k) := by omega
      rw [show l.take k = l by rw [← hln]; exact List.take_length] at hown
      have hc := Tr.convOwned hown
      go_wp2_with fail
      go_ret
      exact ⟨rfl, hB⟩
end Go.Proofs.YtcmjipgigkalcaaDoor
/-
  WALKS over the document's Piece of layer 9.
-/
namespace Go.Proofs.YtcmjipgigkalcaaDoor
open Go.RowKit Go.Shelf Go.Lib
theorem Tr.keep3 {w w' : World} {a b c : Addr} {x y z : Value} (h : w.cell? a = some x ∧ w.cell? b = some y ∧ w.cell? c = some z) (hb : Below w.heap.size w w') : w'.cell? a = some x ∧ w'.cell? b = some y ∧ w'.cell? c = some z :=
  ⟨(hb.cell (block_lt_of_cell h.1)).trans h.1, (hb.cell (block_lt_of_cell h.2.1)).trans h.2.1, (hb.cell (block_lt_of_cell h.2.2)).trans h.2.2⟩
set_option maxRecDepth 100000 in
set_option maxHeartbeats 4000000 in
theorem refPieceOpen (num dep : Int) (nm : ByteArray) (v : Value) (ats : List (ByteArray × ByteArray)) (tx : ByteArray) (fr be : Int) (w : World) (hA : Tr.AtRow w v ats) (hs : ∀ x ∈ ats, x.1.size ≤ 1048576 ∧ x.2.size ≤ 1048576) (hl : (Tr.stag nm ats).length ≤ 70368744177664) :
    Calls Tryd.prog 47 #[.agg #[.int .i64 0, .int .i64 num, .int .i64 dep, .string nm, v, .string tx, .int .i64 fr, .int .i64 be]] w fun r w' => r = .returned (.string ⟨(Tr.stag nm ats).toArray⟩) ∧ Below w.heap.size w w' := by
  obtain ⟨p, cap, rfl, a1, a2, a2', a3⟩ := hA
  obtain ⟨n, hn⟩ : ∃ n, ats.length = n := ⟨_, rfl⟩
  rw [hn] at a1 a3 ⊢
  have hsz : (Tr.stag nm ats).length = (Tr.stp nm ats n).length + 1 := by unfold Tr.stag; rw [hn]; simp
  have hnm : nm.size + 1 ≤ (Tr.stag nm ats).length := by
    have h1 := Tr.stp_le nm ats 0
    have h2 : (Tr.stp nm ats 0).length = 1 + nm.data.toList.length := by simp [Tr.stp]; omega
    have h3 : nm.data.toList.length = nm.size := rfl
    omega
  have HN := hide' hn
  have HA := hide' a3
  have HS := hide' hs
  have HSZ := hide' hsz
  have HL := hide' hl
  have z1 : 1 + nm.size ≤ 9223372036854775807 := by omega
  obtain ⟨W0, hW0⟩ : ∃ W0, w.alloc (.cells #[.int .i64 0, .int .i64 num, .int .i64 dep, .string nm, .slice p n cap, .string tx, .int .i64 fr, .int .i64 be] 39) = W0 := ⟨_, rfl⟩
  have hb0 : Below w.heap.size w W0 := by rw [← hW0]; exact (Below.refl _ _).alloc (Nat.le_refl _) _
  have hz0 : w.heap.size < W0.heap.size := by rw [← hW0]; simp
  have hk0 : W0.heap[w.heap.size]? = some (.cells #[.int .i64 0, .int .i64 num, .int .i64 dep, .string nm, .slice p n cap, .string tx, .int .i64 fr, .int .i64 be] 39 (0, 0)) := by rw [← hW0]; exact heap_alloc_new w _
  have c0 : W0.cell? ⟨w.heap.size, 0, none⟩ = some (.int .i64 0) := by rw [Lib.cell_of_heap hk0]; rfl
  have c3 : W0.cell? ⟨w.heap.size, 3, none⟩ = some (.string nm) := by rw [Lib.cell_of_heap hk0]; rfl
  have c4 : W0.cell? ⟨w.heap.size, 4, none⟩ = some (.slice p n cap) := by rw [Lib.cell_of_heap hk0]; rfl
  have e0 : (⟨#[60]⟩ : ByteArray) ++ nm = ⟨(Tr.stp nm ats 0).toArray⟩ := by
    have := Tr.mk_self ((⟨#[60]⟩ : ByteArray) ++ nm)
    rw [← this]
    congr 1
    simp [Tr.stp]
  clear hn a3 hs hsz hl hnm a2' hk0
  go_enter Tryd.func47, Tryd.ntmps47
  go_wp2
  go_loopw [3, 4] (fun s v wr => ∃ i : Nat, v = .int .i64 i ∧ i ≤ n ∧ s = .string ⟨(Tr.stp nm ats i).toArray⟩ ∧ Hid (Below w.heap.size w wr ∧ Below W0.heap.size W0 wr)) (fun _ v _ => n - (RowKit.intOf v).toNat)
  case atStart => exact ⟨0, rfl, Nat.zero_le _, rfl, ⟨hb0, Below.refl _ _⟩⟩
  case round =>
    obtain ⟨i, rfl, hi, rfl, HB⟩ := hrel
    clear hW0 e0 hb0
    have m4 : wr.cell? ⟨w.heap.size, 4, none⟩ = some (.slice p n cap) := (HB.out.2.cell (p := ⟨w.heap.size, 4, none⟩) hz0).trans c4
    clear c0 c3 c4
    by_cases hlt : i < n
    · have t1 : (i : Int) < (n : Int) := by omega
      obtain ⟨b, o, rfl, ka⟩ := HA.out (by omega)
      obtain ⟨x, hx⟩ : ∃ x, ats[i]? = some x := ⟨_, List.getElem?_eq_getElem (by rw [HN.out]; exact hlt)⟩
      have hx1 := HS.out x (List.mem_of_getElem? hx)
      have hsu := Tr.stp_succ nm ats i x hx
      have hle := Tr.stp_le nm ats (i + 1)
      rw [hsu, List.length_append] at hle
      have hll := HL.out
      have ea : (Tr.atB x).length = 1 + x.1.size + 2 + (Rf.esc Rf.inV x.2.data.toList).length + 1 := by
        have h3 : x.1.data.toList.length = x.1.size := rfl
        unfold Tr.atB
        simp only [List.length_append, h3, List.length_cons, List.length_nil]
      have q0 : wr.cell? ⟨b, o + i * 2, none⟩ = some (.string x.1) := (HB.out.1.cell (p := ⟨b, o + i * 2, none⟩) (block_lt_of_cell (ka i x hx).1)).trans (ka i x hx).1
      have q1 : wr.cell? ⟨b, o + i * 2 + 1, none⟩ = some (.string x.2) := (HB.out.1.cell (p := ⟨b, o + i * 2 + 1, none⟩) (block_lt_of_cell (ka i x hx).2)).trans (ka i x hx).2
      have cl := refQuoted9 x.2 wr.drew hx1.2
      have xx : wr.drew.cell? ⟨w.heap.size, 4, none⟩ = some (.slice (some ⟨b, o, none⟩) n cap) ∧ wr.drew.cell? ⟨b, o + i * 2, none⟩ = some (.string x.1) ∧ wr.drew.cell? ⟨b, o + i * 2 + 1, none⟩ = some (.string x.2) := ⟨m4, q0, q1⟩
      obtain ⟨S, hS⟩ : ∃ S : ByteArray, ⟨(Tr.stp nm ats i).toArray⟩ = S := ⟨_, rfl⟩
      obtain ⟨Qv, hQ⟩ : ∃ Qv : ByteArray, ⟨(Rf.esc Rf.inV x.2.data.toList).toArray⟩ = Qv := ⟨_, rfl⟩
      have hSz : S.size = (Tr.stp nm ats i).length := by rw [← hS]; simp [ByteArray.size]
      have hQz : Qv.size = (Rf.esc Rf.inV x.2.data.toList).length := by rw [← hQ]; simp [ByteArray.size]
      have hfin : S ++ ⟨#[32]⟩ ++ x.1 ++ ⟨#[61, 34]⟩ ++ Qv ++ ⟨#[34]⟩ = ⟨(Tr.stp nm ats (i + 1)).toArray⟩ := by
        rw [← Tr.mk_self (S ++ ⟨#[32]⟩ ++ x.1 ++ ⟨#[61, 34]⟩ ++ Qv ++ ⟨#[34]⟩), hsu, ← hS, ← hQ]
        congr 1
        simp [Tr.atB]
      rw [hQ] at cl
      rw [hS]
      have y1 : S.size + 1 ≤ 9223372036854775807 := by omega
      have y2 : S.size + 1 + x.1.size ≤ 9223372036854775807 := by omega
      have y3 : S.size + 1 + x.1.size + 2 ≤ 9223372036854775807 := by omega
      have y4 : S.size + 1 + x.1.size + 2 + Qv.size ≤ 9223372036854775807 := by omega
      have y5 : S.size + 1 + x.1.size + 2 + Qv.size + 1 ≤ 9223372036854775807 := by omega
      have CL := hide' cl
      have HF := hide' hfin
      have HLT := hide' hlt
      clear cl hfin hSz hQz ea hle hll hsu hx ka hx1 hS hQ
      obtain ⟨x1, x2⟩ := x
      dsimp only at *
      go_wp2_with fail
      clear q0 q1
      go_region_held (fun w' => w'.cell? ⟨w.heap.size, 4, none⟩ = some (.slice (some ⟨b, o, none⟩) n cap) ∧ w'.cell? ⟨b, o + i * 2, none⟩ = some (.string x1) ∧ w'.cell? ⟨b, o + i * 2 + 1, none⟩ = some (.string x2)) (first | (with_reducible exact xx) | (with_reducible exact zz)) (first | (go_at_call 61; refine CL.out.mono ?_; rintro r w1 ⟨rfl, hb1⟩; have zz := Tr.keep3 xx hb1))
      all_goals
        have HB1 : Hid (Below w.heap.size w w1 ∧ Below W0.heap.size W0 w1) := ⟨HB.out.1.drew.trans (hb1.mono HB.out.1.size), HB.out.2.drew.trans (hb1.mono HB.out.2.size)⟩
        clear hb1 xx zz CL
        go_wp2_with fail
        go_roundw
        case rel => exact ⟨i + 1, by go_num, HLT.out, by rw [HF.out], HB1⟩
        case measure => have := HLT.out; simp [RowKit.intOf]; omega
    · obtain rfl : i = n := by omega
      have t1 : ¬ ((i : Int) < i) := by omega
      have hz := HSZ.out
      have hll := HL.out
      have hfin : (⟨(Tr.stp nm ats i).toArray⟩ : ByteArray) ++ ⟨#[62]⟩ = ⟨(Tr.stag nm ats).toArray⟩ := by
        rw [← Tr.mk_self ((⟨(Tr.stp nm ats i).toArray⟩ : ByteArray) ++ ⟨#[62]⟩)]
        congr 1
        unfold Tr.stag
        rw [HN.out]
        simp
      obtain ⟨S, hS⟩ : ∃ S : ByteArray, ⟨(Tr.stp nm ats i).toArray⟩ = S := ⟨_, rfl⟩
      have hSz : S.size = (Tr.stp nm ats i).length := by rw [← hS]; simp [ByteArray.size]
      have y1 : S.size + 1 ≤ 9223372036854775807 := by omega
      rw [hS] at hfin ⊢
      have HF := hide' hfin
      clear hfin hSz hll hz hS
      go_wp2
      go_ret
      refine ⟨?_, HB.out.1⟩
      show Ending.returned (.string _) = _
      rw [HF.out]
set_option maxHeartbeats 2000000 in
theorem refPiece9 (e : Tr.Ev Value) (w : World) (hs : Tr.Tiny e) (hA : Tr.AtRow w e.av e.ats) (hk : 0 ≤ e.kind ∧ e.kind ≤ 2) (hl : (Tr.evB e).length ≤ 70368744177664) :
    Calls Tryd.prog 47 #[.agg e.cs] w fun r w' => r = .returned (.string ⟨(Tr.evB e).toArray⟩) ∧ Below w.heap.size w w' := by
  obtain ⟨kind, num, dep, nm, av, ats, tx, fr, be⟩ := e
  obtain ⟨s1, s2, s3, s4⟩ := hs
  unfold Tr.evB at hl ⊢
  dsimp only at hA s1 s2 s3 s4 hl hk ⊢
  show Calls Tryd.prog 47 #[.agg #[.int .i64 kind, .int .i64 num, .int .i64 dep, .string nm, av, .string tx, .int .i64 fr, .int .i64 be]] w _
  by_cases k0 : kind = 0
  · rw [if_pos k0] at hl ⊢
    subst k0
    exact refPieceOpen num dep nm av ats tx fr be w hA s4 hl
  rw [if_neg k0] at hl ⊢
  have hb := (Below.refl w.heap.size w).alloc (Nat.le_refl _) (.cells #[.int .i64 kind, .int .i64 num, .int .i64 dep, .string nm, av, .string tx, .int .i64 fr, .int .i64 be] 39)
  by_cases k1 : kind = 1
  · rw [if_pos k1] at hl ⊢
    have c := refText9 tx (w.alloc (.cells #[.int .i64 kind, .int .i64 num, .int .i64 dep, .string nm, av, .string tx, .int .i64 fr, .int .i64 be] 39)) s2
    subst k1
    have HB := hide' hb
    have HC := hide' c
    clear hb c hA s1 s2 s3 s4 hl k0 hk
    go_enter Tryd.func47, Tryd.ntmps47
    go_wp2_with fail
    refine HC.out.mono ?_
    rintro e w1 ⟨rfl, hb1⟩
    have HD := hide' (HB.out.trans (hb1.mono HB.out.size))
    clear hb1 HC
    go_wp2
    go_ret
    exact ⟨rfl, HD.out⟩
  rw [if_neg k1] at hl ⊢
  have k2 : kind = 2 := by omega
  have HB := hide' hb
  clear hb hA s2 s3 s4 hl hk
  rw [if_pos k2]
  subst k2
  have z1 : 2 + nm.size ≤ 9223372036854775807 := by omega
  have z2 : 2 + nm.size + 1 ≤ 9223372036854775807 := by omega
  clear s1 k0 k1
  go_enter Tryd.func47, Tryd.ntmps47
  go_wp2
  go_ret
  refine ⟨?_, HB.out⟩
  show Ending.returned (.string _) = _
  congr 2
end Go.Proofs.YtcmjipgigkalcaaDoor
/-
  WALKS over the document's Print of layer 9.
-/
namespace Go.Proofs.YtcmjipgigkalcaaDoor
open Go.RowKit Go.Shelf Go.Lib
namespace Tr
/-- what k events from the one of number a on are written as -/
def evsF (E : Nat → Ev Value) (a k : Nat) : List UInt8 := evsB (fun j => E (a + j)) k
end Tr
set_option maxRecDepth 100000 in
set_option maxHeartbeats 4000000 in
theorem refPrint9 (v : Value) (n : Nat) (E : Nat → Tr.Ev Value) (w : World) (a k : Nat) (hE : Tr.Evs w v n E) (hs : ∀ i, i < n → Tr.Tiny (E i)) (hk : ∀ i, i < n → 0 ≤ (E i).kind ∧ (E i).kind ≤ 2) (hn : n ≤ 1048576) (hak : a + k ≤ n) (hl : (Tr.evsF E a k).length ≤ 70368744177664) :
    Calls Tryd.prog 35 #[v, .int .i64 a, .int .i64 ((a : Int) + k - 1)] w fun r w' => r = .returned (.string ⟨(Tr.evsF E a k).toArray⟩) ∧ Below w.heap.size w w' := by
  have hav : ∀ i, i < n → ∃ pa na ca, (E i).av = .slice pa na ca := fun i h => by
    obtain ⟨pa, ca, e, _⟩ := hE.att i h
    exact ⟨pa, _, ca, e⟩
  have hle : ∀ i, i < k → (Tr.evsF E a i).length + (Tr.evB (E (a + i))).length ≤ 70368744177664 := fun i h => by
    have h1 := Tr.evsB_le (fun j => E (a + j)) (i + 1) (k - (i + 1))
    rw [show i + 1 + (k - (i + 1)) = k by omega] at h1
    have h2 : (Tr.evsF E a (i + 1)).length = (Tr.evsF E a i).length + (Tr.evB (E (a + i))).length := by show (Tr.evsF E a i ++ _).length = _; rw [List.length_append]
    unfold Tr.evsF at h2 hl ⊢
    omega
  have cE : ∀ (i : Nat) W, i < k → Below w.heap.size w W → _ := fun i W h hb => refPiece9 (E (a + i)) W (hs _ (by omega)) ((hE.att _ (by omega)).below hb (Nat.le_refl _)) (hk _ (by omega)) (by have := hle i h; omega)
  have hrow := hE.row.at
  obtain ⟨p0, cap0, rfl, r1, r2, _⟩ := hE.row
  have CE := hide' cE
  have HR := hide' hrow
  have HV := hide' hav
  have HLE := hide' hle
  clear hE hs cE hrow hav hle hl hk
  go_enter Tryd.func35, Tryd.ntmps35
  go_wp2_with fail
  go_loopw [7, 8] (fun s v wr => ∃ i : Nat, v = .int .i64 ((a : Int) + i) ∧ i ≤ k ∧ s = .string ⟨(Tr.evsF E a i).toArray⟩ ∧ Hid (Below w.heap.size w wr)) (fun _ v _ => (a + k) - (RowKit.intOf v).toNat)
  case atStart => exact ⟨0, by simp, Nat.zero_le _, rfl, Below.refl _ _⟩
  case round =>
    obtain ⟨i, rfl, hi, rfl, HB⟩ := hrel
    by_cases hlt : i < k
    · have t1 : (a : Int) + i ≤ (a : Int) + k - 1 := by omega
      obtain ⟨b0, o0, cap0', e0, r1', r2', ka⟩ := HR.out (by omega)
      obtain ⟨rfl, rfl⟩ : p0 = some ⟨b0, o0, none⟩ ∧ cap0 = cap0' := by cases e0; exact ⟨rfl, rfl⟩
      obtain ⟨k0, k1, k2, k3, k4, k5, k6, k7⟩ := ka (a + i) (by omega)
      have kk : ∀ {a : Addr} {u}, w.cell? a = some u → wr.cell? a = some u := fun {a u} hu => (HB.out.cell (p := a) (block_lt_of_cell hu)).trans hu
      have q0 := kk k0
      have q1 := kk k1
      have q2 := kk k2
      have q3 := kk k3
      have q4 := kk k4
      have q5 := kk k5
      have q6 := kk k6
      have q7 := kk k7
      have cEi := CE.out i wr hlt HB.out
      have hav := HV.out (a + i) (by omega)
      have hle := HLE.out i hlt
      have hsu : Tr.evsF E a (i + 1) = Tr.evsF E a i ++ Tr.evB (E (a + i)) := rfl
      obtain ⟨e, he⟩ : ∃ e, E (a + i) = e := ⟨_, rfl⟩
      simp only [he] at q0 q1 q2 q3 q4 q5 q6 q7 hav cEi hle hsu
      clear k0 k1 k2 k3 k4 k5 k6 k7 kk ka CE HR HV he e0
      obtain ⟨kind, num, dep, nm, av, ats, tx, fr, be⟩ := e
      dsimp only at hav
      obtain ⟨pa, na, ca, rfl⟩ := hav
      simp only [Tr.Ev.cs] at cEi
      dsimp only at q0 q1 q2 q3 q4 q5 q6 q7
      obtain ⟨l, hl⟩ : ∃ l, Tr.evB (⟨kind, num, dep, nm, .slice pa na ca, ats, tx, fr, be⟩ : Tr.Ev Value) = l := ⟨_, rfl⟩
      rw [hl] at cEi hle hsu
      obtain ⟨S, hS⟩ : ∃ S : ByteArray, ⟨(Tr.evsF E a i).toArray⟩ = S := ⟨_, rfl⟩
      obtain ⟨L, hL⟩ : ∃ L : ByteArray, ⟨l.toArray⟩ = L := ⟨_, rfl⟩
      have hSz : S.size = (Tr.evsF E a i).length := by rw [← hS]; simp [ByteArray.size]
      have hLz : L.size = l.length := by rw [← hL]; simp [ByteArray.size]
      have y1 : S.size + L.size ≤ 9223372036854775807 := by omega
      have hfin : S ++ L = ⟨(Tr.evsF E a (i + 1)).toArray⟩ := by
        rw [← Tr.mk_self (S ++ L), hsu, ← hS, ← hL]
        congr 1
      rw [hL] at cEi
      rw [hS]
      have CE := hide' cEi
      have HLT := hide' hlt
      have HF := hide' hfin
      clear cEi hlt hle hsu hl hSz hLz hfin hS hL
      have g0 : 0 ≤ (a : Int) + i := by omega
      have g1 : (a : Int) + i < (n : Int) := by omega
      have g2 : ((a : Int) + i).toNat = a + i := by omega
      go_wp2_with fail
      refine CE.out.mono ?_
      rintro r w1 ⟨rfl, hb1⟩
      have HB1 := hide' (HB.out.trans (hb1.mono HB.out.size))
      clear hb1 CE q0 q1 q2 q3 q4 q5 q6 q7
      go_wp2_with fail
      go_roundw
      case rel => exact ⟨i + 1, by go_num, HLT.out, by rw [HF.out], HB1⟩
      case measure => have := HLT.out; simp [RowKit.intOf]; omega
    · obtain rfl : i = k := by omega
      have t1 : ¬ ((a : Int) + i ≤ (a : Int) + i - 1) := by omega
      go_wp2
      go_ret
      exact ⟨rfl, HB.out⟩
end Go.Proofs.YtcmjipgigkalcaaDoor
/-
  The document's nodes of layer 9 in memory, and WALKS over its Value and Form.
-/
namespace Go.Proofs.YtcmjipgigkalcaaDoor
open Go.RowKit Go.Shelf Go.Lib
namespace Tr
/-- a node as the document keeps it -/
structure RN where
  ev : Ev Value
  par : Int
  last : Int
  at_ : Int
  clo : Int
  val : ByteArray
def RN.cs (x : RN) : Array Value := #[.int .i64 x.ev.kind, .int .i64 x.ev.num, .int .i64 x.ev.dep, .string x.ev.nm, x.ev.av, .string x.ev.tx, .int .i64 x.ev.fr, .int .i64 x.ev.be, .int .i64 x.par, .int .i64 x.last, .int .i64 x.at_, .int .i64 x.clo, .string x.val]
/-- nodes one behind the other -/
def NRow (W : World) (v : Value) (m : Nat) (L : Nat → RN) : Prop :=
  ∃ p cap, v = .slice p m cap ∧ m ≤ cap ∧ cap ≤ 9223372036854775807 ∧ (0 < m → ∃ b o, p = some ⟨b, o, none⟩ ∧ ∀ i j u, i < m → (L i).cs[j]? = some u → W.cell? ⟨b, o + i * 13 + j, none⟩ = some u)
theorem NRow.below {W W' : World} {v : Value} {m : Nat} {L : Nat → RN} {B : Nat} (h : NRow W v m L) (hb : Below B W W') (hB : W.heap.size ≤ B) : NRow W' v m L := by
  obtain ⟨p, cap, e, c1, c2, c3⟩ := h
  refine ⟨p, cap, e, c1, c2, fun h0 => ?_⟩
  obtain ⟨b, o, e2, c4⟩ := c3 h0
  exact ⟨b, o, e2, fun i j u hi hu => (hb.cell (p := ⟨b, o + i * 13 + j, none⟩) (Nat.lt_of_lt_of_le (block_lt_of_cell (c4 i j u hi hu)) hB)).trans (c4 i j u hi hu)⟩
theorem keep2 {w w' : World} {a b : Addr} {x y : Value} (h : w.cell? a = some x ∧ w.cell? b = some y) (hb : Below w.heap.size w w') : w'.cell? a = some x ∧ w'.cell? b = some y :=
  ⟨(hb.cell (block_lt_of_cell h.1)).trans h.1, (hb.cell (block_lt_of_cell h.2)).trans h.2⟩
end Tr
set_option maxRecDepth 100000 in
set_option maxHeartbeats 2000000 in
theorem refValue9 (v : Value) (m : Nat) (L : Nat → Tr.RN) (w : World) (n : Int) (h : Tr.NRow w v m L) (h0 : 0 < m) (hn : n < m) :
    Calls Tryd.prog 17 #[v, .int .i64 n] w fun r w' => r = .returned (.string (L n.toNat).val) ∧ Below w.heap.size w w' := by
  obtain ⟨p, cap, rfl, c1, c2, c3⟩ := h
  obtain ⟨b, o, rfl, c4⟩ := c3 h0
  by_cases hz : n < 0
  · have q : w.cell? ⟨b, o + 12, none⟩ = some (.string (L 0).val) := by have := c4 0 12 (.string (L 0).val) h0 rfl; simpa using this
    rw [show n.toNat = 0 by omega]
    have z1 : ((m : Int) == 0) = false := by simp; omega
    have z2 : (0 : Int) < m := by omega
    clear c4 c3
    go_enter Tryd.func17, Tryd.ntmps17
    go_wp2
    go_ret
    exact ⟨rfl, Below.refl _ _⟩
  · obtain ⟨k, rfl⟩ : ∃ k : Nat, n = k := ⟨n.toNat, by omega⟩
    have q := c4 k 12 (.string (L k).val) (by omega) rfl
    rw [Int.toNat_natCast]
    clear c4 c3
    go_enter Tryd.func17, Tryd.ntmps17
    go_wp2
    go_ret
    exact ⟨rfl, Below.refl _ _⟩
set_option maxRecDepth 100000 in
set_option maxHeartbeats 4000000 in
theorem refForm9 (ve : Value) (ne : Nat) (E : Nat → Tr.Ev Value) (v : Value) (m : Nat) (L : Nat → Tr.RN) (w : World) (n : Int) (a k : Nat) (h : Tr.NRow w v m L) (h0 : 0 < m) (hn : n < m) (ha : (L n.toNat).at_ = a) (hc : (L n.toNat).clo = (a : Int) + k - 1)
    (hE : Tr.Evs w ve ne E) (hs : ∀ i, i < ne → Tr.Tiny (E i)) (hk : ∀ i, i < ne → 0 ≤ (E i).kind ∧ (E i).kind ≤ 2) (hne : ne ≤ 1048576) (hak : a + k ≤ ne) (hl : (Tr.evsF E a k).length ≤ 70368744177664) :
    Calls Tryd.prog 18 #[ve, v, .int .i64 n] w fun r w' => r = .returned (.string ⟨(Tr.evsF E a k).toArray⟩) ∧ Below w.heap.size w w' := by
  obtain ⟨p, cap, rfl, c1, c2, c3⟩ := h
  obtain ⟨b, o, rfl, c4⟩ := c3 h0
  have cp : ∀ W, Below w.heap.size w W → _ := fun W hb => refPrint9 ve ne E W a k (hE.below hb (Nat.le_refl _)) hs hk hne hak hl
  obtain ⟨pe, cape, rfl, _, _, _⟩ := hE.row
  have CP := hide' cp
  clear cp hE hs hk hl
  obtain ⟨j, hj⟩ : ∃ j : Nat, n.toNat = j := ⟨_, rfl⟩
  have hjm : j < m := by omega
  have q1 := c4 j 10 (.int .i64 (L j).at_) hjm rfl
  have q2 := c4 j 11 (.int .i64 (L j).clo) hjm rfl
  rw [hj] at ha hc
  rw [ha] at q1
  rw [hc] at q2
  have g1 : (j : Int) < (m : Int) := by omega
  clear c4 c3 ha hc
  by_cases hz : n < 0
  · obtain rfl : j = 0 := by omega
    simp only [Nat.zero_mul, Nat.add_zero] at q1 q2
    have CL := hide' (CP.out w.drew (Below.refl _ _).drew)
    have xx : w.drew.cell? ⟨b, o + 10, none⟩ = some (.int .i64 a) ∧ w.drew.cell? ⟨b, o + 11, none⟩ = some (.int .i64 ((a : Int) + k - 1)) := ⟨q1, q2⟩
    clear CP
    go_enter Tryd.func18, Tryd.ntmps18
    go_wp2_with fail
    clear q1 q2
    go_region_held (fun w' => w'.cell? ⟨b, o + 10, none⟩ = some (.int .i64 a) ∧ w'.cell? ⟨b, o + 11, none⟩ = some (.int .i64 ((a : Int) + k - 1))) (first | (with_reducible exact xx) | (with_reducible exact zz)) (first | (go_at_call 35; refine CL.out.mono ?_; rintro r w1 ⟨rfl, hb1⟩; have zz := Tr.keep2 xx hb1))
    all_goals
      have HB1 := hide' ((Below.refl _ _).drew.trans hb1)
      clear hb1 xx zz CL
      go_wp2_with fail
      go_ret
      exact ⟨rfl, HB1.out⟩
  · obtain rfl : n = j := by omega
    have CL := hide' (CP.out w.drew (Below.refl _ _).drew)
    have xx : w.drew.cell? ⟨b, o + j * 13 + 10, none⟩ = some (.int .i64 a) ∧ w.drew.cell? ⟨b, o + j * 13 + 11, none⟩ = some (.int .i64 ((a : Int) + k - 1)) := ⟨q1, q2⟩
    clear CP
    go_enter Tryd.func18, Tryd.ntmps18
    go_wp2_with fail
    clear q1 q2
    go_region_held (fun w' => w'.cell? ⟨b, o + j * 13 + 10, none⟩ = some (.int .i64 a) ∧ w'.cell? ⟨b, o + j * 13 + 11, none⟩ = some (.int .i64 ((a : Int) + k - 1))) (first | (with_reducible exact xx) | (with_reducible exact zz)) (first | (go_at_call 35; refine CL.out.mono ?_; rintro r w1 ⟨rfl, hb1⟩; have zz := Tr.keep2 xx hb1))
    all_goals
      have HB1 := hide' ((Below.refl _ _).drew.trans hb1)
      clear hb1 xx zz CL
      go_wp2_with fail
      go_ret
      exact ⟨rfl, HB1.out⟩
end Go.Proofs.YtcmjipgigkalcaaDoor
