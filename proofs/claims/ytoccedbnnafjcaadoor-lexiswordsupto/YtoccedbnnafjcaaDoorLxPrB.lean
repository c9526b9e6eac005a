import Derived.Test.YtoccedbnnafjcaaDoorLxValM
import Derived.Lib.ConvBytes
import Derived.Shelf.Strings.BuilderRune
import Derived.Shelf.Strings.BuilderK
import Derived.Test.YtoccedbnnafjcaaDoorLxPrM
import Derived.Test.YtoccedbnnafjcaaDoorLxShelfB
import Derived.Test.YtoccedbnnafjcaaDoorLxShelf
import Derived.Lib.IndexAny
import Derived.Lib.AppendIntMem
/-
  WALKS over (*strings.Builder).copyCheck and WriteRune (over this program; the shelf's own proofs are of another body of copyCheck), and over runes.pieceWidth.
-/
namespace Go.Proofs.YtoccedbnnafjcaaDoor
open Go.RowKit Go.Lib

theorem sizeBuilder : (Tryd.prog.info? 87).map (·.size) = some 2 := by kernel_rfl
theorem liesBuilder : liesAt Tryd.prog Tryd.prog.depth 87 (2 / Tryd.prog.cellsOf 87) 0 87 1 = true := by kernel_rfl

set_option maxHeartbeats 1000000 in
set_option maxRecDepth 100000 in
theorem copyCheck_used (b : Nat) (w : World) (h0 : w.cell? ⟨b, 0, none⟩ = some (.pointer (some ⟨b, 0, none⟩))) :
    Calls Tryd.prog 57 #[.pointer (some ⟨b, 0, none⟩)] w fun e w' => e = .returned (.tuple #[]) ∧ w' = w := by
  obtain ⟨j, hj, _⟩ := Option.map_eq_some_iff.1 sizeBuilder
  go_enter Tryd.func57, Tryd.ntmps57
  go_wp2
  rw [Lib.run_neq_ptr_same w _ Tryd.underlying85 hj]
  go_wp2
  go_end0
  exact ⟨rfl, rfl⟩

set_option maxHeartbeats 1000000 in
set_option maxRecDepth 100000 in
theorem copyCheck_fresh (b : Nat) (w : World) (h0 : w.cell? ⟨b, 0, none⟩ = some (.pointer none)) (hsh : w.shape? b = some (87, 2)) (hfz : w.frozen? ⟨b, 0, none⟩ = false) :
    Calls Tryd.prog 57 #[.pointer (some ⟨b, 0, none⟩)] w fun e w' => e = .returned (.tuple #[]) ∧ w' = w.setCell ⟨b, 0, none⟩ (.pointer (some ⟨b, 0, none⟩)) := by
  obtain ⟨j, hj, hjs⟩ := Option.map_eq_some_iff.1 sizeBuilder
  go_enter Tryd.func57, Tryd.ntmps57
  go_wp2
  rw [Lib.run_to_unsafe w ⟨b, 0, none⟩ Tryd.underlying85 Tryd.underlying75 hj (by rw [hjs]; decide) hsh (Nat.zero_lt_succ 1)]
  simp only [Result.andThen]
  rw [Oper.upon_value]
  go_wp2
  rw [run_callFunc_extern Tryd.func69 (by kernel_rfl) (by kernel_rfl) (by kernel_rfl) (e := Extern.AbiNoEscape.same) (by kernel_rfl)]
  rw [Lib.run_noEscape]
  simp only [Result.andThen]
  rw [Oper.upon_value]
  go_wp2
  rw [Lib.run_from_unsafe w ⟨b, 0, none⟩ Tryd.underlying75 Tryd.underlying85 hj hsh liesBuilder]
  simp only [Result.andThen]
  rw [Oper.upon_value]
  go_wp2
  go_end0
  exact ⟨rfl, rfl⟩

theorem copyCheck_k (B b : Nat) (bs : List Value) (w : World) (h : Lib.IsBuilderF 87 5 B b bs w) :
    Calls Tryd.prog 57 #[.pointer (some ⟨b, 0, none⟩)] w fun e w' => e = .returned (.tuple #[]) ∧ (Lib.BuilderAtF 87 5 B b (.pointer (some ⟨b, 0, none⟩)) bs w' ∧ Below B w w' ∧ Lib.OthersKept 5 (some b) w w') := by
  rcases h with h | h
  · refine (copyCheck_fresh b w h.cell0 h.shape h.frozen0).mono ?_
    rintro e w' ⟨rfl, rfl⟩
    exact ⟨rfl, h.used _, (Below.refl B w).setCell (p := ⟨b, 0, none⟩) h.1 _, (Lib.OthersKept.refl _ _ w).setCell ⟨b, 0, none⟩ rfl _⟩
  · refine (copyCheck_used b w h.cell0).mono ?_
    rintro e w' ⟨rfl, rfl⟩
    exact ⟨rfl, h, Below.refl B _, Lib.OthersKept.refl _ _ _⟩

namespace Rn
/-- how many bytes the U+FFFD stands for that range gives at the front -/
def pw (f : Nat → Nat) (n : Nat) : Nat := if whole f n then fs f n else max 1 (fk f n)
theorem arr_extract (f : Nat → Nat) (n a b : Nat) (ha : a ≤ b) (hb : b ≤ n) : (arr f n).extract a b = arr (off f a) (b - a) := by
  have e : ((arr f n).extract a b).data = (arr (off f a) (b - a)).data := by
    rw [ByteArray.data_extract]
    apply Array.ext
    · simp [arr]; omega
    · intro i h1 h2
      simp [arr, off]
  exact congrArg ByteArray.mk e
theorem whole_le {f : Nat → Nat} {m n : Nat} (h : m ≤ n) (hw : whole f n = false) : whole f m = false := by
  by_cases h0 : m = 0
  · subst h0; simp [whole, fs]
  have e0 : fs f n = size (f 0) := by unfold fs; rw [if_neg (by omega)]
  have e1 : fs f m = size (f 0) := by unfold fs; rw [if_neg (by omega)]
  simp only [whole, decide_eq_false_iff_not, e0, e1] at hw ⊢
  intro ⟨c1, c2⟩
  have e2 := fk_min f h c1
  have a1 := fk_le_fs f n
  omega
theorem fk_three {f : Nat → Nat} {n : Nat} (hw : whole f n = false) : fk f (min n 3) = fk f n := by
  have a1 := fk_le_fs f n
  have a2 := fs_le f n
  have a3 := fk_le f n
  by_cases h0 : n = 0
  · subst h0; rfl
  have e0 : fs f n = size (f 0) := by unfold fs; rw [if_neg (by omega)]
  by_cases hs : size (f 0) = 0
  · rw [fk_zero _ _ hs, fk_zero _ _ hs]
  have e2 := fk_min f (m := min n 3) (n := n) (by omega) (by omega)
  simp only [whole, decide_eq_false_iff_not] at hw
  omega
end Rn

theorem ret_int {k : IntKind} {a b : Int} (h : a = b) : Ending.returned (.int k a) = .returned (.int k b) := by rw [h]
theorem below_bytesWorld (w : World) (e : TypeId) (s : ByteArray) : Below w.heap.size w (Lib.bytesWorld w e s) :=
  ⟨rfl, rfl, rfl, by rw [Lib.bytesWorld_size]; omega, fun k hk => Lib.bytesWorld_at_old w e s k hk⟩
theorem bytes_bytesWorld (w : World) (e : TypeId) (f : Nat → Nat) (m : Nat) (hf : ∀ j, f j < 256) : Bytes (Lib.bytesWorld w e (Rn.arr f m)) w.heap.size 0 m f := by
  intro j hj
  have h := Lib.bytesWorld_cell w e (Rn.arr f m) j (by rw [Rn.arr_size]; exact hj)
  rw [Nat.zero_add, h]
  have e1 : (((Rn.arr f m).data.toList.getD j 0).toNat : Nat) = f j := by
    have := hf j
    simp [Rn.arr, List.getD, hj]
    omega
  rw [e1]

end Go.Proofs.YtoccedbnnafjcaaDoor
/-
  WALKS over (*strings.Builder).WriteString and WriteByte (over this program).
-/
namespace Go.Proofs.YtoccedbnnafjcaaDoor
open Go.RowKit Go.Lib

theorem infoB8 : (Tryd.prog.info? 5).map (fun i => (i.zero, i.size, i.bytes)) = some (some (.int .u8 0), 1, 1) := by kernel_rfl

set_option maxHeartbeats 2000000 in
set_option maxRecDepth 100000 in
theorem writeString_k (B b : Nat) (bs : List Value) (s : ByteArray) (w : World) (h : Lib.IsBuilderF 87 5 B b bs w) (hlen : bs.length + s.size ≤ 140737488355328) (hBw : B ≤ w.heap.size) :
    Calls Tryd.prog 36 #[.pointer (some ⟨b, 0, none⟩), .string s] w fun e w' => e = .returned (.tuple #[.int .i64 s.size, .nilIface]) ∧ (Lib.BuilderAtF 87 5 B b (.pointer (some ⟨b, 0, none⟩)) (bs ++ Lib.strCells s) w' ∧ Below B w w' ∧ Lib.OthersKept 5 (some b) w w') := by
  obtain ⟨i0, hi, hz0, hz1, hz2⟩ := info_parts infoB8
  go_enter Tryd.func36, Tryd.ntmps36
  go_wp2_with fail
  refine (copyCheck_k B b bs _ h).mono ?_
  rintro e w1 ⟨rfl, h1, hb1, hk1⟩
  obtain ⟨hB, v, hbk, hown, hne⟩ := h1
  have c0 : w1.cell? ⟨b, 0, none⟩ = some (.pointer (some ⟨b, 0, none⟩)) := by rw [Lib.cell_of_heap hbk]; rfl
  have c1 : w1.cell? ⟨b, 1, none⟩ = some v := by rw [Lib.cell_of_heap hbk]; rfl
  go_wp2_with (at_builtin; refine Lib.wpList_append_own_stringF _ rfl _ _ 22 9 rfl B 5 i0 Tryd.underlying22 Tryd.underlying9 hi hz0 hz1 hz2 _ _ _ rfl hown s rfl ?c3 ?c4 ?c5 ?_)
  case c3 => unfold maxLen; omega
  case c4 => omega
  case c5 => have := hb1.size; omega
  intro v' w2 hown' hgrow _
  have hlt : b < w1.heap.size := by
    rcases Nat.lt_or_ge b w1.heap.size with h' | h'
    · exact h'
    · simp [Array.getElem?_eq_none h'] at hbk
  have hb2 : w2.heap[b]? = some (.cells #[.pointer (some ⟨b, 0, none⟩), v] 87 (0, 0)) := by
    rw [hgrow.block b hlt (fun e => hne e.symm)]
    exact hbk
  have d0 : w2.cell? ⟨b, 0, none⟩ = some (.pointer (some ⟨b, 0, none⟩)) := by rw [Lib.cell_of_heap hb2]; rfl
  have d1 : w2.cell? ⟨b, 1, none⟩ = some v := by rw [Lib.cell_of_heap hb2]; rfl
  have f1 : w2.frozen? ⟨b, 1, none⟩ = false := Lib.frozen_of_heap hb2 1
  obtain ⟨ao, n', cap, rfl⟩ : ∃ ao n' cap, v' = .slice ao n' cap := by
    rcases hown'.2 with ⟨hv, _⟩ | ⟨g, cap, cur, fz, hv, _⟩
    · exact ⟨_, _, _, hv⟩
    · exact ⟨_, _, _, hv⟩
  go_wp2
  go_ret2
  refine ⟨rfl, ?_, ?_, (hk1.grown hgrow (Lib.ownsRowF_kind hown)).setCell ⟨b, 1, none⟩ rfl _⟩
  · exact Lib.BuilderAtF.put (T := 87) (e := 5) hB hb2 (bs' := bs ++ Lib.strCells s) (by simpa [Lib.strCells_length] using hown') (by decide)
  · exact (hb1.grown hgrow (by have := hb1.size; omega) (fun k hk => (hown.lt k hk).1)).setCell (p := ⟨b, 1, none⟩) hB _
end Go.Proofs.YtoccedbnnafjcaaDoor
/-
  WALKS over (*strings.Builder).WriteByte, lexis.inQuotes, printWord and Print; words in memory.
-/
namespace Go.Proofs.YtoccedbnnafjcaaDoor
open Go.RowKit Go.Lib
namespace Lx
/-- a word that lies in memory: its kind, text, number, place -/
structure Wx where
  k : Int
  tx : ByteArray
  nm : Int
  p0 : Int
  p1 : Int
  p2 : Int
  p3 : Int
def Wx.cs (x : Wx) : Array Value := #[.int .i64 x.k, .string x.tx, .int .i64 x.nm, .int .i64 x.p0, .int .i64 x.p1, .int .i64 x.p2, .int .i64 x.p3]
def Wx.key (x : Wx) : Int × ByteArray × Int := (x.k, x.tx, x.nm)
/-- words one behind the other -/
def WRow (W : World) (v : Value) (n : Nat) (X : Nat → Wx) : Prop :=
  ∃ p cap, v = .slice p n cap ∧ n ≤ cap ∧ cap ≤ 9223372036854775807 ∧ (0 < n → ∃ b o, p = some ⟨b, o, none⟩ ∧ ∀ i j u, i < n → (X i).cs[j]? = some u → W.cell? ⟨b, o + i * 7 + j, none⟩ = some u)
theorem WRow.below {W W' : World} {B : Nat} {v : Value} {n : Nat} {X : Nat → Wx} (h : WRow W v n X) (hb : Below B W W') (hB : W.heap.size ≤ B) : WRow W' v n X := by
  obtain ⟨p, cap, e, c1, c2, c3⟩ := h
  refine ⟨p, cap, e, c1, c2, fun h0 => ?_⟩
  obtain ⟨b, o, e2, c4⟩ := c3 h0
  exact ⟨b, o, e2, fun i j u h1 h2 => (hb.cell (p := ⟨b, o + i * 7 + j, none⟩) (Nat.lt_of_lt_of_le (block_lt_of_cell (c4 i j u h1 h2)) hB)).trans (c4 i j u h1 h2)⟩
/-- the table that Itoa looks into -/
abbrev P10 (w : World) : Prop := Lib.TabIs Tryd.prog w "internal/strconv.uint64pow10" .u64 Lib.pow10Tab
theorem contains_eq (tx : ByteArray) : decide (0 ≤ Lib.indexByte tx.data.toList 34) = decide ((34 : UInt8) ∈ tx.data.toList) := by
  rw [← Lib.contains_iff_indexByte, List.contains_eq_mem]
end Lx
set_option maxHeartbeats 2000000 in
theorem lxWriteByte (B b : Nat) (bs : List Value) (c : Int) (w : World) (h : Lib.IsBuilderF 87 5 B b bs w) (hlen : bs.length + 1 ≤ 140737488355328) (hBw : B ≤ w.heap.size) :
    Calls Tryd.prog 35 #[.pointer (some ⟨b, 0, none⟩), .int .u8 c] w fun e w' => e = .returned .nilIface ∧ (Lib.BuilderAtF 87 5 B b (.pointer (some ⟨b, 0, none⟩)) (bs ++ [.int .u8 c]) w' ∧ Below B w w' ∧ Lib.OthersKept 5 (some b) w w') := by
  obtain ⟨i0, hi, hz0, hz1, hz2⟩ := info_parts infoB8
  go_enter Tryd.func35, Tryd.ntmps35
  go_wp2_with fail
  refine (copyCheck_k B b bs _ h).mono ?_
  rintro e w1 ⟨rfl, h1, hb1, hk1⟩
  obtain ⟨hB, v, hbk, hown, hne⟩ := h1
  have c0 : w1.cell? ⟨b, 0, none⟩ = some (.pointer (some ⟨b, 0, none⟩)) := by rw [Lib.cell_of_heap hbk]; rfl
  have c1 : w1.cell? ⟨b, 1, none⟩ = some v := by rw [Lib.cell_of_heap hbk]; rfl
  go_wp2_with (at_builtin; refine wpList_append_ownF _ rfl _ _ 22 rfl B 5 i0 (.int .u8 0) 1 1 Tryd.underlying22 hi hz0 hz1 hz2 rfl (by decide) _ _ _ rfl (hown.alloc _) ⟨w1.heap.size, 0, none⟩ 1 1 [.int .u8 c] rfl rfl ?c1 ?c2 ?c3 ?c4 ?c5 ?_)
  case c1 =>
    intro j u hj
    match j, hj with
    | 0, hj => simp at hj; subst hj; simp [Addr.add]
  case c2 => intro u hu; simp at hu; subst hu; rfl
  case c3 => unfold maxLen; omega
  case c4 => omega
  case c5 => have := hb1.size; simp; omega
  intro v' w2 hown' hgrow _
  have hlt : b < w1.heap.size := by
    rcases Nat.lt_or_ge b w1.heap.size with h' | h'
    · exact h'
    · simp [Array.getElem?_eq_none h'] at hbk
  have hb2 : w2.heap[b]? = some (.cells #[.pointer (some ⟨b, 0, none⟩), v] 87 (0, 0)) := by
    rw [hgrow.block b (by simp; omega) (fun e => hne e.symm), Lib.alloc_old w1 _ b hlt]
    exact hbk
  have d0 : w2.cell? ⟨b, 0, none⟩ = some (.pointer (some ⟨b, 0, none⟩)) := by rw [Lib.cell_of_heap hb2]; rfl
  have d1 : w2.cell? ⟨b, 1, none⟩ = some v := by rw [Lib.cell_of_heap hb2]; rfl
  have f1 : w2.frozen? ⟨b, 1, none⟩ = false := Lib.frozen_of_heap hb2 1
  obtain ⟨g, cap, rfl⟩ : ∃ g cap, v' = .slice (some ⟨g, 0, none⟩) (bs.length + 1) cap := by
    rcases hown'.2 with ⟨_, h0⟩ | ⟨g, cap, cur, fz, hv, _⟩
    · omega
    · exact ⟨g, cap, hv⟩
  go_wp2
  go_ret
  refine ⟨rfl, ?_, ?_, ((hk1.alloc _).grown hgrow (Lib.ownsRowF_kind (hown.alloc _))).setCell ⟨b, 1, none⟩ rfl _⟩
  · exact Lib.BuilderAtF.put (T := 87) (e := 5) hB hb2 (bs' := bs ++ [.int .u8 c]) (by simpa using hown') (by decide)
  · exact ((hb1.alloc (by have := hb1.size; omega) _).grown hgrow (by have := hb1.size; simp; omega) (fun k hk => (hown.lt k hk).1)).setCell (p := ⟨b, 1, none⟩) hB _

theorem lxInQuotes (tx : ByteArray) (w : World) (hs : tx.size ≤ 1099511627776) :
    Calls Tryd.prog 59 #[.string tx] w fun e w' => e = .returned (.string ((⟨#[Lx.quo tx]⟩ : ByteArray) ++ tx ++ ⟨#[Lx.quo tx]⟩)) ∧ w' = w := by
  have c := Tryd.strings_Contains_one tx 34 w
  rw [Lx.contains_eq] at c
  unfold Lx.quo
  by_cases h : (34 : UInt8) ∈ tx.data.toList
  · rw [decide_eq_true h] at c
    rw [if_pos h]
    clear h
    go_enter Tryd.func59, Tryd.ntmps59
    go_wp2_with fail
    refine c.mono ?_
    rintro e w' ⟨rfl, rfl⟩
    clear c
    go_wp2
    go_ret
    exact ⟨rfl, rfl⟩
  · rw [decide_eq_false h] at c
    rw [if_neg h]
    clear h
    go_enter Tryd.func59, Tryd.ntmps59
    go_wp2_with fail
    refine c.mono ?_
    rintro e w' ⟨rfl, rfl⟩
    clear c
    go_wp2
    go_ret
    exact ⟨rfl, rfl⟩
set_option maxRecDepth 100000 in
set_option maxHeartbeats 1000000 in
theorem lxPrintWord (x : Lx.Wx) (w : World) (hT : Lx.P10 w) (hs : x.tx.size ≤ 1099511627776) (h0 : -9223372036854775808 ≤ x.nm) (h1 : x.nm ≤ 9223372036854775807) :
    Calls Tryd.prog 37 #[.agg x.cs] w fun e w' => e = .returned (.string (Lx.pt x.key)) ∧ Below w.heap.size w w' := by
  obtain ⟨k, tx, nm, p0, p1, p2, p3⟩ := x
  dsimp only at hs h0 h1
  show Calls Tryd.prog 37 #[.agg #[.int .i64 k, .string tx, .int .i64 nm, .int .i64 p0, .int .i64 p1, .int .i64 p2, .int .i64 p3]] w _
  have hb := (Below.refl w.heap.size w).alloc (Nat.le_refl _) (.cells #[.int .i64 k, .string tx, .int .i64 nm, .int .i64 p0, .int .i64 p1, .int .i64 p2, .int .i64 p3] 43)
  have cI := Tryd.strconv_Itoa nm h0 h1 _ (Lib.tabIs_alloc hT (.cells #[.int .i64 k, .string tx, .int .i64 nm, .int .i64 p0, .int .i64 p1, .int .i64 p2, .int .i64 p3] 43))
  have cQ := lxInQuotes tx (w.alloc (.cells #[.int .i64 k, .string tx, .int .i64 nm, .int .i64 p0, .int .i64 p1, .int .i64 p2, .int .i64 p3] 43)) hs
  unfold Lx.pt Lx.Wx.key
  dsimp only
  have HB := hide' hb
  clear hb hT hs h0 h1
  by_cases h2 : k = 2
  · rw [if_pos h2]
    have g2 : (k == 2) = true := by simpa using h2
    clear h2 cQ
    go_enter Tryd.func37, Tryd.ntmps37
    go_wp2_with fail
    refine cI.mono ?_
    rintro e w' ⟨rfl, kk, os, rfl⟩
    clear cI
    go_wp2
    go_ret
    exact ⟨rfl, HB.out.trans (Lib.below_grow _ _ HB.out.size kk os)⟩
  · rw [if_neg h2]
    have g2 : (k == 2) = false := by simpa using h2
    clear h2 cI
    by_cases h3 : k = 1
    · rw [if_pos h3]
      have g3 : (k == 1) = true := by simpa using h3
      clear h3
      go_enter Tryd.func37, Tryd.ntmps37
      go_wp2_with fail
      refine cQ.mono ?_
      rintro e w' ⟨rfl, rfl⟩
      clear cQ
      go_wp2
      go_ret
      exact ⟨rfl, HB.out⟩
    · rw [if_neg h3]
      have g3 : (k == 1) = false := by simpa using h3
      clear h3 cQ
      go_enter Tryd.func37, Tryd.ntmps37
      go_wp2
      go_ret
      exact ⟨rfl, HB.out⟩
end Go.Proofs.YtoccedbnnafjcaaDoor
/-
  THE WALK over lexis.Print.
-/
namespace Go.Proofs.YtoccedbnnafjcaaDoor
open Go.RowKit Go.Lib
namespace Lx
theorem isB_below {T e : TypeId} {B b : Nat} {bs : List Value} {W W' : World} (h : Lib.IsBuilderF T e B b bs W) (hb : Below W.heap.size W W') : Lib.IsBuilderF T e B b bs W' := by
  have hk : ∀ {q : Nat} {o : Obj}, W.heap[q]? = some o → W'.heap[q]? = some o := fun {q o} e => (hb.block q (Array.getElem?_eq_some_iff.1 e).1).trans e
  have go : ∀ {p : Value}, Lib.BuilderAtF T e B b p bs W → Lib.BuilderAtF T e B b p bs W' := by
    rintro p ⟨hB, v, hb, hown, hne⟩
    refine ⟨hB, v, hk hb, ⟨hown.1, ?_⟩, hne⟩
    rcases hown.2 with hn | ⟨g, cap, cur, fz, hv, hbg, hg, rest⟩
    · exact .inl hn
    · exact .inr ⟨g, cap, cur, fz, hv, hbg, hk hg, rest⟩
  exact h.elim (fun x => .inl (go x)) (fun x => .inr (go x))
theorem tsz_mono (L : Nat → Int × ByteArray × Int) : ∀ (k i : Nat), tsz L i ≤ tsz L (i + k)
  | 0, i => Nat.le_refl _
  | k + 1, i => by
    have := tsz_mono L k i
    show tsz L i ≤ tsz L (i + k) + _ + 1
    omega
theorem pr_le {L : Nat → Int × ByteArray × Int} {i n : Nat} (h : i ≤ n) : (pr L i).size ≤ tsz L n := by
  have h1 := pr_size L i
  have h2 := tsz_mono L (n - i) i
  rw [show i + (n - i) = n by omega] at h2
  omega
theorem pr_next_size (L : Nat → Int × ByteArray × Int) (i : Nat) (h : i ≠ 0) : (pr L (i + 1)).size = (pr L i).size + 1 + (pt (L i)).size := by
  show (if i = 0 then pt (L i) else pr L i ++ ⟨#[32]⟩ ++ pt (L i)).size = _
  rw [if_neg h, ByteArray.size_append, ByteArray.size_append]
  rfl
/-- what the Builder holds behind so many words -/
abbrev bdc (L : Nat → Int × ByteArray × Int) (i : Nat) : List Value := Lib.byteCells (pr L i).data.toList
theorem bdc_first (L : Nat → Int × ByteArray × Int) : bdc L 0 ++ Lib.strCells (pt (L 0)) = bdc L 1 := rfl
theorem bdc_next (L : Nat → Int × ByteArray × Int) (i : Nat) (h : i ≠ 0) : bdc L i ++ [.int .u8 32] ++ Lib.strCells (pt (L i)) = bdc L (i + 1) := by
  show _ = Lib.byteCells (pr L (i + 1)).data.toList
  unfold pr
  rw [if_neg h]
  simp only [ByteArray.data_append, Array.toList_append, Lib.byteCells_append, Lib.strCells_eq]
  rfl
end Lx
set_option maxRecDepth 100000 in
set_option maxHeartbeats 4000000 in
theorem lxPrint (v : Value) (n : Nat) (X : Nat → Lx.Wx) (w : World) (hP : Lx.P10 w) (hR : Lx.WRow w v n X) (hs : ∀ i, i < n → (X i).tx.size ≤ 1099511627776 ∧ -9223372036854775808 ≤ (X i).nm ∧ (X i).nm ≤ 9223372036854775807) (ht : Lx.tsz (fun i => (X i).key) n ≤ 70368744177664) :
    Calls Tryd.prog 13 #[v] w fun e w' => e = .returned (.string (Lx.pr (fun i => (X i).key) n)) ∧ Below w.heap.size w w' := by
  obtain ⟨p, cap, rfl, c1, c2, c3⟩ := hR
  obtain ⟨L, hL⟩ : ∃ L, L = fun i => (X i).key := ⟨_, rfl⟩
  have hLi : ∀ i, L i = (X i).key := fun i => by rw [hL]
  rw [← hL] at ht ⊢
  clear hL
  have H3 := hide' c3
  have HP := hide' (Lib.tabBelow_of_tabIs hP)
  have HS := hide' hs
  have HL := hide' hLi
  have HT := hide' ht
  clear c3 hP hs hLi ht
  have hb0 := (Below.refl w.heap.size w).alloc (Nat.le_refl _) (.cells #[.pointer none, .slice none 0 0] 87)
  have hi0 := Lib.IsBuilderF.of (Lib.fresh_isBuilder 87 5 w)
  have H0 := hide' (And.intro hb0 hi0)
  clear hb0 hi0
  go_enter Tryd.func13, Tryd.ntmps13
  go_wp2_with fail
  go_loopw [8] (fun v wr => ∃ i : Nat, v = .int .i64 i ∧ i ≤ n ∧ Below w.heap.size w wr ∧ w.heap.size < wr.heap.size ∧ Lib.IsBuilderF 87 5 w.heap.size w.heap.size (Lx.bdc L i) wr) (fun v _ => n - (RowKit.intOf v).toNat)
  case atStart => exact ⟨0, rfl, Nat.zero_le _, H0.out.1, by simp, H0.out.2⟩
  case round =>
    obtain ⟨i, rfl, hi, hbr, hz, hI⟩ := hrel
    have HB := hide' hbr
    have HI := hide' hI
    have HZ := hide' hz
    clear hbr hI hz H0
    by_cases hlt : i < n
    · have t1 : (i : Int) < (n : Int) := by omega
      obtain ⟨b, o, rfl, kc⟩ := H3.out (by omega)
      have jc : ∀ j u, (X i).cs[j]? = some u → wr.cell? ⟨b, o + i * 7 + j, none⟩ = some u := fun j u h2 => (HB.out.cell (p := ⟨b, o + i * 7 + j, none⟩) (block_lt_of_cell (kc i j u hlt h2))).trans (kc i j u hlt h2)
      obtain ⟨s1, s2, s3⟩ := HS.out i hlt
      have eL := HL.out i
      have hle := Lx.pr_le (L := L) (i := i + 1) (n := n) (by omega)
      have hle0 := Lx.pr_le (L := L) (i := i) (n := n) (by omega)
      have hT := HT.out
      obtain ⟨x, hx⟩ : ∃ x, X i = x := ⟨_, rfl⟩
      rw [hx] at jc s1 s2 s3 eL
      clear hx kc H3 HS HL HT
      have cW : ∀ W, Below w.heap.size w W → _ := fun W hb => lxPrintWord x W (HP.out W hb) s1 s2 s3
      rw [← eL] at cW
      obtain ⟨k, tx, nm, q0, q1, q2, q3⟩ := x
      have p0 : wr.cell? ⟨b, o + i * 7, none⟩ = some (.int .i64 k) := jc 0 _ rfl
      have p1 : wr.cell? ⟨b, o + i * 7 + 1, none⟩ = some (.string tx) := jc 1 _ rfl
      have p2 : wr.cell? ⟨b, o + i * 7 + 2, none⟩ = some (.int .i64 nm) := jc 2 _ rfl
      have p3 : wr.cell? ⟨b, o + i * 7 + 3, none⟩ = some (.int .i64 q0) := jc 3 _ rfl
      have p4 : wr.cell? ⟨b, o + i * 7 + 4, none⟩ = some (.int .i64 q1) := jc 4 _ rfl
      have p5 : wr.cell? ⟨b, o + i * 7 + 5, none⟩ = some (.int .i64 q2) := jc 5 _ rfl
      have p6 : wr.cell? ⟨b, o + i * 7 + 6, none⟩ = some (.int .i64 q3) := jc 6 _ rfl
      have CW := hide' cW
      have HE := hide' (And.intro hle (And.intro hle0 (And.intro hT eL)))
      clear jc cW hle hle0 hT eL s1 s2 s3
      by_cases h0 : i = 0
      · have g0 : ¬ (0 : Int) < (i : Int) := by omega
        have H0 := hide' h0
        clear h0
        go_wp2_with fail
        refine (CW.out _ (HB.out.alloc HB.out.size _)).mono ?_
        rintro e w2 ⟨rfl, hb2⟩
        have hi2 := Lx.isB_below (HI.out.alloc _) hb2
        have hbb := (HB.out.alloc HB.out.size _).trans (hb2.mono (HB.out.alloc HB.out.size _).size)
        have HZ2 := Nat.lt_of_lt_of_le HZ.out (Nat.le_trans (by simp) hb2.size)
        have hlen : (Lx.bdc L i).length + (Lx.pt (L i)).size ≤ 140737488355328 := by
          have h1 := HE.out
          obtain rfl := H0.out
          rw [Lib.byteCells_length]
          have e1 : (Lx.pr L (0 + 1)).size = (Lx.pt (L 0)).size := rfl
          have e2 : (Lx.pr L 0).data.toList.length = 0 := rfl
          omega
        have cS := writeString_k w.heap.size w.heap.size _ (Lx.pt (L i)) w2 hi2 hlen hbb.size
        have H2 := hide' (And.intro hbb HZ2)
        clear hb2 hi2 hbb HZ2 hlen
        go_wp2_with fail
        refine cS.mono ?_
        rintro e w3 ⟨rfl, hI3, hb3, _⟩
        obtain rfl := H0.out
        rw [Lx.bdc_first] at hI3
        have H4 := hide' (And.intro hI3 hb3)
        clear cS hI3 hb3
        go_wp2
        exact ⟨⟨1, rfl, by omega, H2.out.1.trans H4.out.2, Nat.lt_of_lt_of_le H2.out.2 H4.out.2.size, .inr H4.out.1⟩, by simp [RowKit.intOf]; omega⟩
      · have g0 : (0 : Int) < (i : Int) := by omega
        have H0 := hide' h0
        clear h0
        go_wp2_with fail
        have hlen1 : (Lx.bdc L i).length + 1 ≤ 140737488355328 := by
          have h1 := HE.out
          rw [Lib.byteCells_length]
          have e2 : (Lx.pr L i).data.toList.length = (Lx.pr L i).size := rfl
          omega
        refine (lxWriteByte w.heap.size w.heap.size _ 32 _ (HI.out.alloc _) hlen1 (HB.out.alloc HB.out.size _).size).mono ?_
        rintro e w2 ⟨rfl, hI2, hb2, hk2⟩
        have hw2 : w2.heap[wr.heap.size]? = some (.cells #[.int .i64 k, .string tx, .int .i64 nm, .int .i64 q0, .int .i64 q1, .int .i64 q2, .int .i64 q3] 43 (0, 0)) :=
          hk2 wr.heap.size _ (Lx.heap_new wr _) (fun e1 => by have := HZ.out; simp at e1; omega) (fun c' fz' e1 => by cases e1)
        have d0 : w2.cell? ⟨wr.heap.size, 0, none⟩ = some (.int .i64 k) := by rw [Lib.cell_of_heap hw2]; rfl
        have d1 : w2.cell? ⟨wr.heap.size, 1, none⟩ = some (.string tx) := by rw [Lib.cell_of_heap hw2]; rfl
        have d2 : w2.cell? ⟨wr.heap.size, 2, none⟩ = some (.int .i64 nm) := by rw [Lib.cell_of_heap hw2]; rfl
        have d3 : w2.cell? ⟨wr.heap.size, 3, none⟩ = some (.int .i64 q0) := by rw [Lib.cell_of_heap hw2]; rfl
        have d4 : w2.cell? ⟨wr.heap.size, 4, none⟩ = some (.int .i64 q1) := by rw [Lib.cell_of_heap hw2]; rfl
        have d5 : w2.cell? ⟨wr.heap.size, 5, none⟩ = some (.int .i64 q2) := by rw [Lib.cell_of_heap hw2]; rfl
        have d6 : w2.cell? ⟨wr.heap.size, 6, none⟩ = some (.int .i64 q3) := by rw [Lib.cell_of_heap hw2]; rfl
        have hbb := (HB.out.alloc HB.out.size _).trans hb2
        have hzz : w.heap.size < w2.heap.size := Nat.lt_of_lt_of_le HZ.out (Nat.le_trans (by simp) hb2.size)
        have HI2 := hide' hI2
        have H2 := hide' (And.intro hbb hzz)
        clear hI2 hb2 hk2 hw2 hbb hzz hlen1 p0 p1 p2 p3 p4 p5 p6
        go_wp2_with fail
        refine (CW.out _ H2.out.1).mono ?_
        rintro e w3 ⟨rfl, hb3⟩
        have hi3 := Lx.isB_below (.inr HI2.out) hb3
        have hbb := H2.out.1.trans (hb3.mono H2.out.1.size)
        have hlen : (Lx.bdc L i ++ [Value.int .u8 32]).length + (Lx.pt (L i)).size ≤ 140737488355328 := by
          have h1 := HE.out
          rw [List.length_append, Lib.byteCells_length]
          have e2 : (Lx.pr L i).data.toList.length = (Lx.pr L i).size := rfl
          have e1 := Lx.pr_next_size L i H0.out
          simp only [List.length_cons, List.length_nil]
          omega
        have cS := writeString_k w.heap.size w.heap.size _ (Lx.pt (L i)) w3 hi3 hlen hbb.size
        have hzz := Nat.lt_of_lt_of_le H2.out.2 hb3.size
        have H3 := hide' (And.intro hbb hzz)
        clear hb3 hi3 hbb hzz hlen d0 d1 d2 d3 d4 d5 d6
        go_wp2_with fail
        refine cS.mono ?_
        rintro e w4 ⟨rfl, hI4, hb4, _⟩
        rw [Lx.bdc_next L i H0.out] at hI4
        have H4 := hide' (And.intro hI4 hb4)
        clear cS hI4 hb4
        go_wp2
        exact ⟨⟨i + 1, rfl, by omega, H3.out.1.trans H4.out.2, Nat.lt_of_lt_of_le H3.out.2 H4.out.2.size, .inr H4.out.1⟩, by simp [RowKit.intOf]; omega⟩
    · have t1 : ¬ (i : Int) < (n : Int) := by omega
      obtain rfl : i = n := by omega
      have cT := Tryd.Builder_String_any_k w.heap.size w.heap.size _ wr HI.out HB.out.size
      clear hi hlt H3 HS HL HT HP HI
      go_wp2_with fail
      refine cT.mono ?_
      rintro e w2 ⟨rfl, _, hb2, _⟩
      clear cT
      go_wp2
      go_ret
      exact ⟨rfl, HB.out.trans hb2⟩
end Go.Proofs.YtoccedbnnafjcaaDoor
