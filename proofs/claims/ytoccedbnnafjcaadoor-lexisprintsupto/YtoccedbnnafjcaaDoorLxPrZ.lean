import Derived.Test.YtoccedbnnafjcaaDoorLxPrM
import Derived.Test.YtoccedbnnafjcaaDoorLxShelfB
import Derived.Test.YtoccedbnnafjcaaDoorLxShelf
import Derived.Test.YtoccedbnnafjcaaDoorRfBld
import Derived.Lib.IndexAny
import Derived.Lib.AppendIntMem
import Derived.Test.YtoccedbnnafjcaaDoorChArg
import Derived.Deep.RegionHeld3
import Derived.Deep.QuietTactic
import Derived.Test.YtoccedbnnafjcaaDoorLxNone
import Derived.Test.YtoccedbnnafjcaaDoorLxAwake
import Derived.Laws.AppendOwnNone
/-
  WALKS over (*strings.Builder).WriteByte, lexis.inQuotes, printWord and Print; words in memory.
-/
namespace Go.Proofs.YtoccedbnnafjcaaDoor
open Go.RowKit Go.Lib
namespace Lx
/-- a word that lies in memory: its kind, text, number, place -/
structure Wx where
  k : Int
  tx : ByteArray
  nm : Int
  p0 : Int
  p1 : Int
  p2 : Int
  p3 : Int
def Wx.cs (x : Wx) : Array Value := #[.int .i64 x.k, .string x.tx, .int .i64 x.nm, .int .i64 x.p0, .int .i64 x.p1, .int .i64 x.p2, .int .i64 x.p3]
def Wx.key (x : Wx) : Int × ByteArray × Int := (x.k, x.tx, x.nm)
/-- words one behind the other -/
def WRow (W : World) (v : Value) (n : Nat) (X : Nat → Wx) : Prop :=
  ∃ p cap, v = .slice p n cap ∧ n ≤ cap ∧ cap ≤ 9223372036854775807 ∧ (0 < n → ∃ b o, p = some ⟨b, o, none⟩ ∧ ∀ i j u, i < n → (X i).cs[j]? = some u → W.cell? ⟨b, o + i * 7 + j, none⟩ = some u)
theorem WRow.below {W W' : World} {B : Nat} {v : Value} {n : Nat} {X : Nat → Wx} (h : WRow W v n X) (hb : Below B W W') (hB : W.heap.size ≤ B) : WRow W' v n X := by
  obtain ⟨p, cap, e, c1, c2, c3⟩ := h
  refine ⟨p, cap, e, c1, c2, fun h0 => ?_⟩
  obtain ⟨b, o, e2, c4⟩ := c3 h0
  exact ⟨b, o, e2, fun i j u h1 h2 => (hb.cell (p := ⟨b, o + i * 7 + j, none⟩) (Nat.lt_of_lt_of_le (block_lt_of_cell (c4 i j u h1 h2)) hB)).trans (c4 i j u h1 h2)⟩
/-- the table that Itoa looks into -/
abbrev P10 (w : World) : Prop := Lib.TabIs Tryd.prog w "internal/strconv.uint64pow10" .u64 Lib.pow10Tab
theorem contains_eq (tx : ByteArray) : decide (0 ≤ Lib.indexByte tx.data.toList 34) = decide ((34 : UInt8) ∈ tx.data.toList) := by
  rw [← Lib.contains_iff_indexByte, List.contains_eq_mem]
end Lx
set_option maxHeartbeats 2000000 in
theorem lxWriteByte (B b : Nat) (bs : List Value) (c : Int) (w : World) (h : Lib.IsBuilderF 87 5 B b bs w) (hlen : bs.length + 1 ≤ 140737488355328) (hBw : B ≤ w.heap.size) :
    Calls Tryd.prog 35 #[.pointer (some ⟨b, 0, none⟩), .int .u8 c] w fun e w' => e = .returned .nilIface ∧ (Lib.BuilderAtF 87 5 B b (.pointer (some ⟨b, 0, none⟩)) (bs ++ [.int .u8 c]) w' ∧ Below B w w' ∧ Lib.OthersKept 5 (some b) w w') := by
  obtain ⟨i0, hi, hz0, hz1, hz2⟩ := info_parts infoB8
  go_enter Tryd.func35, Tryd.ntmps35
  go_wp2_with fail
  refine (copyCheck_k B b bs _ h).mono ?_
  rintro e w1 ⟨rfl, h1, hb1, hk1⟩
  obtain ⟨hB, v, hbk, hown, hne⟩ := h1
  have c0 : w1.cell? ⟨b, 0, none⟩ = some (.pointer (some ⟨b, 0, none⟩)) := by rw [Lib.cell_of_heap hbk]; rfl
  have c1 : w1.cell? ⟨b, 1, none⟩ = some v := by rw [Lib.cell_of_heap hbk]; rfl
  go_wp2_with (at_builtin; refine wpList_append_ownF _ rfl _ _ 22 rfl B 5 i0 (.int .u8 0) 1 1 Tryd.underlying22 hi hz0 hz1 hz2 rfl (by decide) _ _ _ rfl (hown.alloc _) ⟨w1.heap.size, 0, none⟩ 1 1 [.int .u8 c] rfl rfl ?c1 ?c2 ?c3 ?c4 ?c5 ?_)
  case c1 =>
    intro j u hj
    match j, hj with
    | 0, hj => simp at hj; subst hj; simp [Addr.add]
  case c2 => intro u hu; simp at hu; subst hu; rfl
  case c3 => unfold maxLen; omega
  case c4 => omega
  case c5 => have := hb1.size; simp; omega
  intro v' w2 hown' hgrow _
  have hlt : b < w1.heap.size := by
    rcases Nat.lt_or_ge b w1.heap.size with h' | h'
    · exact h'
    · simp [Array.getElem?_eq_none h'] at hbk
  have hb2 : w2.heap[b]? = some (.cells #[.pointer (some ⟨b, 0, none⟩), v] 87 (0, 0)) := by
    rw [hgrow.block b (by simp; omega) (fun e => hne e.symm), Lib.alloc_old w1 _ b hlt]
    exact hbk
  have d0 : w2.cell? ⟨b, 0, none⟩ = some (.pointer (some ⟨b, 0, none⟩)) := by rw [Lib.cell_of_heap hb2]; rfl
  have d1 : w2.cell? ⟨b, 1, none⟩ = some v := by rw [Lib.cell_of_heap hb2]; rfl
  have f1 : w2.frozen? ⟨b, 1, none⟩ = false := Lib.frozen_of_heap hb2 1
  obtain ⟨g, cap, rfl⟩ : ∃ g cap, v' = .slice (some ⟨g, 0, none⟩) (bs.length + 1) cap := by
    rcases hown'.2 with ⟨_, h0⟩ | ⟨g, cap, cur, fz, hv, _⟩
    · omega
    · exact ⟨g, cap, hv⟩
  go_wp2
  go_ret
  refine ⟨rfl, ?_, ?_, ((hk1.alloc _).grown hgrow (Lib.ownsRowF_kind (hown.alloc _))).setCell ⟨b, 1, none⟩ rfl _⟩
  · exact Lib.BuilderAtF.put (T := 87) (e := 5) hB hb2 (bs' := bs ++ [.int .u8 c]) (by simpa using hown') (by decide)
  · exact ((hb1.alloc (by have := hb1.size; omega) _).grown hgrow (by have := hb1.size; simp; omega) (fun k hk => (hown.lt k hk).1)).setCell (p := ⟨b, 1, none⟩) hB _

theorem lxInQuotes (tx : ByteArray) (w : World) (hs : tx.size ≤ 1099511627776) :
    Calls Tryd.prog 59 #[.string tx] w fun e w' => e = .returned (.string ((⟨#[Lx.quo tx]⟩ : ByteArray) ++ tx ++ ⟨#[Lx.quo tx]⟩)) ∧ w' = w := by
  have c := Tryd.strings_Contains_one tx 34 w
  rw [Lx.contains_eq] at c
  unfold Lx.quo
  by_cases h : (34 : UInt8) ∈ tx.data.toList
  · rw [decide_eq_true h] at c
    rw [if_pos h]
    clear h
    go_enter Tryd.func59, Tryd.ntmps59
    go_wp2_with fail
    refine c.mono ?_
    rintro e w' ⟨rfl, rfl⟩
    clear c
    go_wp2
    go_ret
    exact ⟨rfl, rfl⟩
  · rw [decide_eq_false h] at c
    rw [if_neg h]
    clear h
    go_enter Tryd.func59, Tryd.ntmps59
    go_wp2_with fail
    refine c.mono ?_
    rintro e w' ⟨rfl, rfl⟩
    clear c
    go_wp2
    go_ret
    exact ⟨rfl, rfl⟩
set_option maxRecDepth 100000 in
set_option maxHeartbeats 1000000 in
theorem lxPrintWord (x : Lx.Wx) (w : World) (hT : Lx.P10 w) (hs : x.tx.size ≤ 1099511627776) (h0 : -9223372036854775808 ≤ x.nm) (h1 : x.nm ≤ 9223372036854775807) :
    Calls Tryd.prog 37 #[.agg x.cs] w fun e w' => e = .returned (.string (Lx.pt x.key)) ∧ Below w.heap.size w w' := by
  obtain ⟨k, tx, nm, p0, p1, p2, p3⟩ := x
  dsimp only at hs h0 h1
  show Calls Tryd.prog 37 #[.agg #[.int .i64 k, .string tx, .int .i64 nm, .int .i64 p0, .int .i64 p1, .int .i64 p2, .int .i64 p3]] w _
  have hb := (Below.refl w.heap.size w).alloc (Nat.le_refl _) (.cells #[.int .i64 k, .string tx, .int .i64 nm, .int .i64 p0, .int .i64 p1, .int .i64 p2, .int .i64 p3] 43)
  have cI := Tryd.strconv_Itoa nm h0 h1 _ (Lib.tabIs_alloc hT (.cells #[.int .i64 k, .string tx, .int .i64 nm, .int .i64 p0, .int .i64 p1, .int .i64 p2, .int .i64 p3] 43))
  have cQ := lxInQuotes tx (w.alloc (.cells #[.int .i64 k, .string tx, .int .i64 nm, .int .i64 p0, .int .i64 p1, .int .i64 p2, .int .i64 p3] 43)) hs
  unfold Lx.pt Lx.Wx.key
  dsimp only
  have HB := hide' hb
  clear hb hT hs h0 h1
  by_cases h2 : k = 2
  · rw [if_pos h2]
    have g2 : (k == 2) = true := by simpa using h2
    clear h2 cQ
    go_enter Tryd.func37, Tryd.ntmps37
    go_wp2_with fail
    refine cI.mono ?_
    rintro e w' ⟨rfl, kk, os, rfl⟩
    clear cI
    go_wp2
    go_ret
    exact ⟨rfl, HB.out.trans (Lib.below_grow _ _ HB.out.size kk os)⟩
  · rw [if_neg h2]
    have g2 : (k == 2) = false := by simpa using h2
    clear h2 cI
    by_cases h3 : k = 1
    · rw [if_pos h3]
      have g3 : (k == 1) = true := by simpa using h3
      clear h3
      go_enter Tryd.func37, Tryd.ntmps37
      go_wp2_with fail
      refine cQ.mono ?_
      rintro e w' ⟨rfl, rfl⟩
      clear cQ
      go_wp2
      go_ret
      exact ⟨rfl, HB.out⟩
    · rw [if_neg h3]
      have g3 : (k == 1) = false := by simpa using h3
      clear h3 cQ
      go_enter Tryd.func37, Tryd.ntmps37
      go_wp2
      go_ret
      exact ⟨rfl, HB.out⟩
end Go.Proofs.YtoccedbnnafjcaaDoor
/-
  THE WALK over lexis.Print.
-/
namespace Go.Proofs.YtoccedbnnafjcaaDoor
open Go.RowKit Go.Lib
namespace Lx
theorem isB_below {T e : TypeId} {B b : Nat} {bs : List Value} {W W' : World} (h : Lib.IsBuilderF T e B b bs W) (hb : Below W.heap.size W W') : Lib.IsBuilderF T e B b bs W' := by
  have hk : ∀ {q : Nat} {o : Obj}, W.heap[q]? = some o → W'.heap[q]? = some o := fun {q o} e => (hb.block q (Array.getElem?_eq_some_iff.1 e).1).trans e
  have go : ∀ {p : Value}, Lib.BuilderAtF T e B b p bs W → Lib.BuilderAtF T e B b p bs W' := by
    rintro p ⟨hB, v, hb, hown, hne⟩
    refine ⟨hB, v, hk hb, ⟨hown.1, ?_⟩, hne⟩
    rcases hown.2 with hn | ⟨g, cap, cur, fz, hv, hbg, hg, rest⟩
    · exact .inl hn
    · exact .inr ⟨g, cap, cur, fz, hv, hbg, hk hg, rest⟩
  exact h.elim (fun x => .inl (go x)) (fun x => .inr (go x))
theorem tsz_mono (L : Nat → Int × ByteArray × Int) : ∀ (k i : Nat), tsz L i ≤ tsz L (i + k)
  | 0, i => Nat.le_refl _
  | k + 1, i => by
    have := tsz_mono L k i
    show tsz L i ≤ tsz L (i + k) + _ + 1
    omega
theorem pr_le {L : Nat → Int × ByteArray × Int} {i n : Nat} (h : i ≤ n) : (pr L i).size ≤ tsz L n := by
  have h1 := pr_size L i
  have h2 := tsz_mono L (n - i) i
  rw [show i + (n - i) = n by omega] at h2
  omega
theorem pr_next_size (L : Nat → Int × ByteArray × Int) (i : Nat) (h : i ≠ 0) : (pr L (i + 1)).size = (pr L i).size + 1 + (pt (L i)).size := by
  show (if i = 0 then pt (L i) else pr L i ++ ⟨#[32]⟩ ++ pt (L i)).size = _
  rw [if_neg h, ByteArray.size_append, ByteArray.size_append]
  rfl
/-- what the Builder holds behind so many words -/
abbrev bdc (L : Nat → Int × ByteArray × Int) (i : Nat) : List Value := Lib.byteCells (pr L i).data.toList
theorem bdc_first (L : Nat → Int × ByteArray × Int) : bdc L 0 ++ Lib.strCells (pt (L 0)) = bdc L 1 := rfl
theorem bdc_next (L : Nat → Int × ByteArray × Int) (i : Nat) (h : i ≠ 0) : bdc L i ++ [.int .u8 32] ++ Lib.strCells (pt (L i)) = bdc L (i + 1) := by
  show _ = Lib.byteCells (pr L (i + 1)).data.toList
  unfold pr
  rw [if_neg h]
  simp only [ByteArray.data_append, Array.toList_append, Lib.byteCells_append, Lib.strCells_eq]
  rfl
end Lx
set_option maxRecDepth 100000 in
set_option maxHeartbeats 4000000 in
theorem lxPrint (v : Value) (n : Nat) (X : Nat → Lx.Wx) (w : World) (hP : Lx.P10 w) (hR : Lx.WRow w v n X) (hs : ∀ i, i < n → (X i).tx.size ≤ 1099511627776 ∧ -9223372036854775808 ≤ (X i).nm ∧ (X i).nm ≤ 9223372036854775807) (ht : Lx.tsz (fun i => (X i).key) n ≤ 70368744177664) :
    Calls Tryd.prog 13 #[v] w fun e w' => e = .returned (.string (Lx.pr (fun i => (X i).key) n)) ∧ Below w.heap.size w w' := by
  obtain ⟨p, cap, rfl, c1, c2, c3⟩ := hR
  obtain ⟨L, hL⟩ : ∃ L, L = fun i => (X i).key := ⟨_, rfl⟩
  have hLi : ∀ i, L i = (X i).key := fun i => by rw [hL]
  rw [← hL] at ht ⊢
  clear hL
  have H3 := hide' c3
  have HP := hide' (Lib.tabBelow_of_tabIs hP)
  have HS := hide' hs
  have HL := hide' hLi
  have HT := hide' ht
  clear c3 hP hs hLi ht
  have hb0 := (Below.refl w.heap.size w).alloc (Nat.le_refl _) (.cells #[.pointer none, .slice none 0 0] 87)
  have hi0 := Lib.IsBuilderF.of (Lib.fresh_isBuilder 87 5 w)
  have H0 := hide' (And.intro hb0 hi0)
  clear hb0 hi0
  go_enter Tryd.func13, Tryd.ntmps13
  go_wp2_with fail
  go_loopw [8] (fun v wr => ∃ i : Nat, v = .int .i64 i ∧ i ≤ n ∧ Below w.heap.size w wr ∧ w.heap.size < wr.heap.size ∧ Lib.IsBuilderF 87 5 w.heap.size w.heap.size (Lx.bdc L i) wr) (fun v _ => n - (RowKit.intOf v).toNat)
  case atStart => exact ⟨0, rfl, Nat.zero_le _, H0.out.1, by simp, H0.out.2⟩
  case round =>
    obtain ⟨i, rfl, hi, hbr, hz, hI⟩ := hrel
    have HB := hide' hbr
    have HI := hide' hI
    have HZ := hide' hz
    clear hbr hI hz H0
    by_cases hlt : i < n
    · have t1 : (i : Int) < (n : Int) := by omega
      obtain ⟨b, o, rfl, kc⟩ := H3.out (by omega)
      have jc : ∀ j u, (X i).cs[j]? = some u → wr.cell? ⟨b, o + i * 7 + j, none⟩ = some u := fun j u h2 => (HB.out.cell (p := ⟨b, o + i * 7 + j, none⟩) (block_lt_of_cell (kc i j u hlt h2))).trans (kc i j u hlt h2)
      obtain ⟨s1, s2, s3⟩ := HS.out i hlt
      have eL := HL.out i
      have hle := Lx.pr_le (L := L) (i := i + 1) (n := n) (by omega)
      have hle0 := Lx.pr_le (L := L) (i := i) (n := n) (by omega)
      have hT := HT.out
      obtain ⟨x, hx⟩ : ∃ x, X i = x := ⟨_, rfl⟩
      rw [hx] at jc s1 s2 s3 eL
      clear hx kc H3 HS HL HT
      have cW : ∀ W, Below w.heap.size w W → _ := fun W hb => lxPrintWord x W (HP.out W hb) s1 s2 s3
      rw [← eL] at cW
      obtain ⟨k, tx, nm, q0, q1, q2, q3⟩ := x
      have p0 : wr.cell? ⟨b, o + i * 7, none⟩ = some (.int .i64 k) := jc 0 _ rfl
      have p1 : wr.cell? ⟨b, o + i * 7 + 1, none⟩ = some (.string tx) := jc 1 _ rfl
      have p2 : wr.cell? ⟨b, o + i * 7 + 2, none⟩ = some (.int .i64 nm) := jc 2 _ rfl
      have p3 : wr.cell? ⟨b, o + i * 7 + 3, none⟩ = some (.int .i64 q0) := jc 3 _ rfl
      have p4 : wr.cell? ⟨b, o + i * 7 + 4, none⟩ = some (.int .i64 q1) := jc 4 _ rfl
      have p5 : wr.cell? ⟨b, o + i * 7 + 5, none⟩ = some (.int .i64 q2) := jc 5 _ rfl
      have p6 : wr.cell? ⟨b, o + i * 7 + 6, none⟩ = some (.int .i64 q3) := jc 6 _ rfl
      have CW := hide' cW
      have HE := hide' (And.intro hle (And.intro hle0 (And.intro hT eL)))
      clear jc cW hle hle0 hT eL s1 s2 s3
      by_cases h0 : i = 0
      · have g0 : ¬ (0 : Int) < (i : Int) := by omega
        have H0 := hide' h0
        clear h0
        go_wp2_with fail
        refine (CW.out _ (HB.out.alloc HB.out.size _)).mono ?_
        rintro e w2 ⟨rfl, hb2⟩
        have hi2 := Lx.isB_below (HI.out.alloc _) hb2
        have hbb := (HB.out.alloc HB.out.size _).trans (hb2.mono (HB.out.alloc HB.out.size _).size)
        have HZ2 := Nat.lt_of_lt_of_le HZ.out (Nat.le_trans (by simp) hb2.size)
        have hlen : (Lx.bdc L i).length + (Lx.pt (L i)).size ≤ 140737488355328 := by
          have h1 := HE.out
          obtain rfl := H0.out
          rw [Lib.byteCells_length]
          have e1 : (Lx.pr L (0 + 1)).size = (Lx.pt (L 0)).size := rfl
          have e2 : (Lx.pr L 0).data.toList.length = 0 := rfl
          omega
        have cS := writeString_k w.heap.size w.heap.size _ (Lx.pt (L i)) w2 hi2 hlen hbb.size
        have H2 := hide' (And.intro hbb HZ2)
        clear hb2 hi2 hbb HZ2 hlen
        go_wp2_with fail
        refine cS.mono ?_
        rintro e w3 ⟨rfl, hI3, hb3, _⟩
        obtain rfl := H0.out
        rw [Lx.bdc_first] at hI3
        have H4 := hide' (And.intro hI3 hb3)
        clear cS hI3 hb3
        go_wp2
        exact ⟨⟨1, rfl, by omega, H2.out.1.trans H4.out.2, Nat.lt_of_lt_of_le H2.out.2 H4.out.2.size, .inr H4.out.1⟩, by simp [RowKit.intOf]; omega⟩
      · have g0 : (0 : Int) < (i : Int) := by omega
        have H0 := hide' h0
        clear h0
        go_wp2_with fail
        have hlen1 : (Lx.bdc L i).length + 1 ≤ 140737488355328 := by
          have h1 := HE.out
          rw [Lib.byteCells_length]
          have e2 : (Lx.pr L i).data.toList.length = (Lx.pr L i).size := rfl
          omega
        refine (lxWriteByte w.heap.size w.heap.size _ 32 _ (HI.out.alloc _) hlen1 (HB.out.alloc HB.out.size _).size).mono ?_
        rintro e w2 ⟨rfl, hI2, hb2, hk2⟩
        have hw2 : w2.heap[wr.heap.size]? = some (.cells #[.int .i64 k, .string tx, .int .i64 nm, .int .i64 q0, .int .i64 q1, .int .i64 q2, .int .i64 q3] 43 (0, 0)) :=
          hk2 wr.heap.size _ (Lx.heap_new wr _) (fun e1 => by have := HZ.out; simp at e1; omega) (fun c' fz' e1 => by cases e1)
        have d0 : w2.cell? ⟨wr.heap.size, 0, none⟩ = some (.int .i64 k) := by rw [Lib.cell_of_heap hw2]; rfl
        have d1 : w2.cell? ⟨wr.heap.size, 1, none⟩ = some (.string tx) := by rw [Lib.cell_of_heap hw2]; rfl
        have d2 : w2.cell? ⟨wr.heap.size, 2, none⟩ = some (.int .i64 nm) := by rw [Lib.cell_of_heap hw2]; rfl
        have d3 : w2.cell? ⟨wr.heap.size, 3, none⟩ = some (.int .i64 q0) := by rw [Lib.cell_of_heap hw2]; rfl
        have d4 : w2.cell? ⟨wr.heap.size, 4, none⟩ = some (.int .i64 q1) := by rw [Lib.cell_of_heap hw2]; rfl
        have d5 : w2.cell? ⟨wr.heap.size, 5, none⟩ = some (.int .i64 q2) := by rw [Lib.cell_of_heap hw2]; rfl
        have d6 : w2.cell? ⟨wr.heap.size, 6, none⟩ = some (.int .i64 q3) := by rw [Lib.cell_of_heap hw2]; rfl
        have hbb := (HB.out.alloc HB.out.size _).trans hb2
        have hzz : w.heap.size < w2.heap.size := Nat.lt_of_lt_of_le HZ.out (Nat.le_trans (by simp) hb2.size)
        have HI2 := hide' hI2
        have H2 := hide' (And.intro hbb hzz)
        clear hI2 hb2 hk2 hw2 hbb hzz hlen1 p0 p1 p2 p3 p4 p5 p6
        go_wp2_with fail
        refine (CW.out _ H2.out.1).mono ?_
        rintro e w3 ⟨rfl, hb3⟩
        have hi3 := Lx.isB_below (.inr HI2.out) hb3
        have hbb := H2.out.1.trans (hb3.mono H2.out.1.size)
        have hlen : (Lx.bdc L i ++ [Value.int .u8 32]).length + (Lx.pt (L i)).size ≤ 140737488355328 := by
          have h1 := HE.out
          rw [List.length_append, Lib.byteCells_length]
          have e2 : (Lx.pr L i).data.toList.length = (Lx.pr L i).size := rfl
          have e1 := Lx.pr_next_size L i H0.out
          simp only [List.length_cons, List.length_nil]
          omega
        have cS := writeString_k w.heap.size w.heap.size _ (Lx.pt (L i)) w3 hi3 hlen hbb.size
        have hzz := Nat.lt_of_lt_of_le H2.out.2 hb3.size
        have H3 := hide' (And.intro hbb hzz)
        clear hb3 hi3 hbb hzz hlen d0 d1 d2 d3 d4 d5 d6
        go_wp2_with fail
        refine cS.mono ?_
        rintro e w4 ⟨rfl, hI4, hb4, _⟩
        rw [Lx.bdc_next L i H0.out] at hI4
        have H4 := hide' (And.intro hI4 hb4)
        clear cS hI4 hb4
        go_wp2
        exact ⟨⟨i + 1, rfl, by omega, H3.out.1.trans H4.out.2, Nat.lt_of_lt_of_le H3.out.2 H4.out.2.size, .inr H4.out.1⟩, by simp [RowKit.intOf]; omega⟩
    · have t1 : ¬ (i : Int) < (n : Int) := by omega
      obtain rfl : i = n := by omega
      have cT := Tryd.Builder_String_any_k w.heap.size w.heap.size _ wr HI.out HB.out.size
      clear hi hlt H3 HS HL HT HP HI
      go_wp2_with fail
      refine cT.mono ?_
      rintro e w2 ⟨rfl, _, hb2, _⟩
      clear cT
      go_wp2
      go_ret
      exact ⟨rfl, HB.out.trans hb2⟩
end Go.Proofs.YtoccedbnnafjcaaDoor
/-
  THE WALK over gimletref10.number.
-/
namespace Go.Proofs.YtoccedbnnafjcaaDoor
open Go.RowKit Go.Lib
namespace Lx
theorem conv_one {b v : Nat} {W : World} (hv : v < 256) (h : W.cell? ⟨b, 0, none⟩ = some (.int .u8 (v : Nat))) : (convert 22 9 (.slice (some ⟨b, 0, none⟩) 1 1)).run Tryd.prog W = .ok (.string ⟨#[UInt8.ofNat v]⟩) W := by
  have hA : ArgS W (fun _ => v) 1 (.slice (some ⟨b, 0, none⟩) 1 1) := .some _ _ (Nat.le_refl _) (by unfold maxLen; omega) (fun j hj => (by rw [show j = 0 by omega]; exact h)) (fun _ => ⟨_, _, rfl⟩)
  exact hA.text (fun _ => hv)
theorem conv_new (v : Nat) (W : World) (hv : v < 256) : (convert 22 9 (.slice (some ⟨W.heap.size, 0, none⟩) 1 1)).run Tryd.prog (W.alloc (.cells #[.int .u8 (v : Nat)] 5)) = .ok (.string ⟨#[UInt8.ofNat v]⟩) (W.alloc (.cells #[.int .u8 (v : Nat)] 5)) :=
  conv_one hv (by rw [Lib.cell_of_heap (heap_new W _)]; rfl)
theorem conv_old {v : Nat} {W W5 : World} (hv : v < 256) (hb : Below (W.alloc (.cells #[.int .u8 (v : Nat)] 5)).heap.size (W.alloc (.cells #[.int .u8 (v : Nat)] 5)) W5) : (convert 22 9 (.slice (some ⟨W.heap.size, 0, none⟩) 1 1)).run Tryd.prog W5 = .ok (.string ⟨#[UInt8.ofNat v]⟩) W5 :=
  conv_one hv ((hb.cell (p := ⟨W.heap.size, 0, none⟩) (by simp)).trans (by rw [Lib.cell_of_heap (heap_new W _)]; rfl))
end Lx
set_option maxRecDepth 100000 in
set_option maxHeartbeats 4000000 in
theorem refNumber_small (u : Nat) (w : World) (hu : u < 10) :
    Calls Tryd.prog 39 #[.int .i64 u] w fun e w' => e = .returned (.string ⟨(Lib.decDigits u).toArray⟩) ∧ Below w.heap.size w w' := by
  rw [Lib.decDigits_one hu]
  have g1 : ¬ (u : Int) < 0 := by omega
  have g2 : ¬ (9 : Int) < u := by omega
  have g3 : IntKind.i64.wrap (48 + (u : Int)) = 48 + u := by rw [IntKind.wrap_i64]; omega
  have g4 : IntKind.u8.wrap (48 + (u : Int)) = 48 + u := by rw [IntKind.wrap_u8]; omega
  have k := Lx.conv_new (48 + u) w (by omega)
  rw [show ((48 + u : Nat) : Int) = 48 + (u : Int) by omega] at k
  have hb := hide' ((Below.refl w.heap.size w).alloc (Nat.le_refl _) (.cells #[.int .u8 (48 + (u : Int))] 5))
  go_enter Tryd.func39, Tryd.ntmps39
  go_wp2
  go_ret
  exact ⟨rfl, hb.out⟩
set_option maxRecDepth 100000 in
set_option maxHeartbeats 4000000 in
theorem refNumber_big (u q r : Nat) (w : World) (hu : (u : Int) ≤ 9223372036854775807) (h9 : (9 : Int) < u) (hq : (u : Int).tdiv 10 = q) (hr : (u : Int).tmod 10 = r) (hr9 : r < 10) (hqu : q ≤ u) (ss : ByteArray) (hs : ss.size ≤ 100)
    (ih : ∀ W, Calls Tryd.prog 39 #[.int .i64 q] W fun e w' => e = .returned (.string ss) ∧ Below W.heap.size W w') :
    Calls Tryd.prog 39 #[.int .i64 u] w fun e w' => e = .returned (.string (ss ++ ⟨#[UInt8.ofNat (48 + r)]⟩)) ∧ Below w.heap.size w w' := by
  have g1 : ¬ (u : Int) < 0 := by omega
  have g3 : IntKind.i64.wrap (48 + (r : Int)) = 48 + r := by rw [IntKind.wrap_i64]; omega
  have g4 : IntKind.u8.wrap (48 + (r : Int)) = 48 + r := by rw [IntKind.wrap_u8]; omega
  have hv : 48 + r < 256 := by omega
  have er : ((48 + r : Nat) : Int) = 48 + (r : Int) := by omega
  have kN : ∀ W, _ := fun W => Lx.conv_new (48 + r) W hv
  have kO : ∀ W W5, _ := fun W W5 => Lx.conv_old (v := 48 + r) (W := W) (W5 := W5) hv
  rw [er] at kN kO
  clear er hv
  have z2 : ss.size + 1 ≤ 9223372036854775807 := by omega
  clear hs
  have k0 := kN w.drew
  have IH := hide' ih
  have KN := hide' kN
  have KO := hide' kO
  clear ih kN kO
  go_enter Tryd.func39, Tryd.ntmps39
  go_wp2_with fail
  obtain ⟨S', hSd⟩ : ∃ S' : World → Prop, S' = fun W' => Below w.heap.size w W' := ⟨_, rfl⟩
  have hSB : ∀ W' W8, S' W' → Below W'.heap.size W' W8 → S' W8 := fun W' W8 h hb => by rw [hSd] at h ⊢; exact h.trans (hb.mono h.size)
  have hSA : ∀ W', S' W' → ∀ o, S' (W'.alloc o) := fun W' h o => hSB _ _ h ((Below.refl _ _).alloc (Nat.le_refl _) o)
  have hS0 : S' w.drew := by rw [hSd]; exact (Below.refl _ _).drew
  have HSD := hide' hSd
  clear hSd k0
  refine wp_region_held_drew (S := S') (by kernel_rfl) hS0 (fun hHeld => ?_)
  simp only [List.size_toArray, List.length_cons, List.length_nil, Nat.reduceAdd]
  generalize w.drew = W0 at hHeld hS0 ⊢
  clear hS0
  refine wpAnyH_take (i := 0) (v := .int .i64 (u : Nat)) rfl (by kernel_rfl) (by kernel_rfl) (by kernel_rfl) (fun _ _ _ h => h) (Or.inl ⟨by rfl, ?y1⟩) (by assumption) ?_
  case y1 => (intro w' hSw; go_simp; (try rfl); all_goals first | omega | (rw [IntKind.wrap_i64]; omega))
  try simp only [List.getElem_toArray, List.getElem_cons_zero, Act.put, List.setIfInBounds_toArray, List.set_cons_zero, List.set_cons_succ]
  refine wpAnyH_take (i := 1) (v := .int .i64 (q : Nat)) rfl (by kernel_rfl) (by kernel_rfl) (by kernel_rfl) (fun _ _ _ h => h) (Or.inl ⟨by rfl, ?y2⟩) (by assumption) ?_
  case y2 => (intro w' hSw; go_simp; (try rfl); all_goals first | omega | (rw [IntKind.wrap_i64]; omega))
  try simp only [List.getElem_toArray, List.getElem_cons_zero, List.getElem_cons_succ, Act.put, List.setIfInBounds_toArray, List.set_cons_zero, List.set_cons_succ]
  refine wpAnyH_take (i := 3) (v := .int .i64 (u : Nat)) rfl (by kernel_rfl) (by kernel_rfl) (by kernel_rfl) (fun _ _ _ h => h) (Or.inl ⟨by rfl, ?y3⟩) (by assumption) ?_
  case y3 => (intro w' hSw; go_simp; (try rfl); all_goals first | omega | (rw [IntKind.wrap_i64]; omega))
  try simp only [List.getElem_toArray, List.getElem_cons_zero, List.getElem_cons_succ, Act.put, List.setIfInBounds_toArray, List.set_cons_zero, List.set_cons_succ]
  refine wpAnyH_take (i := 4) (v := .int .i64 (r : Nat)) rfl (by kernel_rfl) (by kernel_rfl) (by kernel_rfl) (fun _ _ _ h => h) (Or.inl ⟨by rfl, ?y4⟩) (by assumption) ?_
  case y4 => (intro w' hSw; go_simp; (try rfl); all_goals first | omega | (rw [IntKind.wrap_i64]; omega))
  try simp only [List.getElem_toArray, List.getElem_cons_zero, List.getElem_cons_succ, Act.put, List.setIfInBounds_toArray, List.set_cons_zero, List.set_cons_succ]
  refine wpAnyH_take (i := 5) (v := .int .i64 (48 + (r : Int))) rfl (by kernel_rfl) (by kernel_rfl) (by kernel_rfl) (fun _ _ _ h => h) (Or.inl ⟨by rfl, ?y5⟩) (by assumption) ?_
  case y5 => (intro w' hSw; go_simp; (try rfl); all_goals first | omega | (rw [IntKind.wrap_i64]; omega))
  try simp only [List.getElem_toArray, List.getElem_cons_zero, List.getElem_cons_succ, Act.put, List.setIfInBounds_toArray, List.set_cons_zero, List.set_cons_succ]
  refine wpAnyH_take (i := 6) (v := .int .u8 (48 + (r : Int))) rfl (by kernel_rfl) (by kernel_rfl) (by kernel_rfl) (fun _ _ _ h => h) (Or.inl ⟨by rfl, ?y6⟩) (by assumption) ?_
  case y6 => (intro w' hSw; go_simp; (try rfl); all_goals first | omega | (rw [IntKind.wrap_i64]; omega))
  try simp only [List.getElem_toArray, List.getElem_cons_zero, List.getElem_cons_succ, Act.put, List.setIfInBounds_toArray, List.set_cons_zero, List.set_cons_succ]
  refine wpAnyH_ready (rs := [2, 7]) (by kernel_rfl) (by simp) ?_
  refine AllReadyH.cons rfl (fun K hK => ?_) ?_
  · skip
    try simp only [List.getElem_toArray, List.getElem_cons_zero, List.getElem_cons_succ]
    go_simp
    refine (IH.out _).mono ?_
    rintro e W1 ⟨rfl, hb1⟩
    go_wp2_with fail
    have hSW1 := hSB _ _ hHeld hb1
    refine hK.out _ _ hSW1 (fun hHeldZ => ?_)
    clear hK K
    try simp only [List.getElem_toArray, List.getElem_cons_zero, List.getElem_cons_succ, Act.put, List.setIfInBounds_toArray, List.set_cons_zero, List.set_cons_succ]
    refine wpAnyH_ready (rs := [7]) (by kernel_rfl) (by simp) ?_
    refine AllReadyH.cons rfl (fun K hK => ?_) AllReadyH.nil
    try simp only [List.getElem_toArray, List.getElem_cons_zero, List.getElem_cons_succ]
    go_simp
    have hSW2 := hSA _ hSW1 (.cells #[.int .u8 (48 + (r : Int))] 5)
    refine hK.out _ _ hSW2 (fun hHeldZ => ?_)
    clear hK K
    try simp only [List.getElem_toArray, List.getElem_cons_zero, List.getElem_cons_succ, Act.put, List.setIfInBounds_toArray, List.set_cons_zero, List.set_cons_succ]
    refine wpAnyH_ready (rs := [8]) (by kernel_rfl) (by simp) ?_
    refine AllReadyH.cons rfl (fun K hK => ?_) AllReadyH.nil
    try simp only [List.getElem_toArray, List.getElem_cons_zero, List.getElem_cons_succ]
    have kc := KN.out W1
    go_simp
    refine hK.out _ _ hSW2 (fun hHeldZ => ?_)
    clear hK K kc
    try simp only [List.getElem_toArray, List.getElem_cons_zero, List.getElem_cons_succ, Act.put, List.setIfInBounds_toArray, List.set_cons_zero, List.set_cons_succ]
    refine wpAnyH_take (i := 9) (v := .string (ss ++ ⟨#[UInt8.ofNat (48 + r)]⟩)) rfl (by kernel_rfl) (by kernel_rfl) (by kernel_rfl) (fun _ _ _ h => h) (Or.inl ⟨by rfl, ?y7⟩) (by assumption) ?_
    case y7 => (intro w' hSw; go_simp; (try rfl); all_goals first | omega | (rw [IntKind.wrap_i64]; omega))
    try simp only [List.getElem_toArray, List.getElem_cons_zero, List.getElem_cons_succ, Act.put, List.setIfInBounds_toArray, List.set_cons_zero, List.set_cons_succ]
    refine wpAnyH_take (i := 10) (v := .string (ss ++ ⟨#[UInt8.ofNat (48 + r)]⟩)) rfl (by kernel_rfl) (by kernel_rfl) (by kernel_rfl) (fun _ _ _ h => h) (Or.inl ⟨by rfl, ?y8⟩) (by assumption) ?_
    case y8 => (intro w' hSw; go_simp; (try rfl); all_goals first | omega | (rw [IntKind.wrap_i64]; omega))
    try simp only [List.getElem_toArray, List.getElem_cons_zero, List.getElem_cons_succ, Act.put, List.setIfInBounds_toArray, List.set_cons_zero, List.set_cons_succ]
    refine wpAnyH_done (by kernel_rfl) ?_ _
    have hX := hHeldZ
    rw [HSD.out] at hX
    go_wp2
    go_ret
    exact ⟨rfl, hX⟩
  refine AllReadyH.cons rfl (fun K hK => ?_) AllReadyH.nil
  try simp only [List.getElem_toArray, List.getElem_cons_zero, List.getElem_cons_succ]
  go_simp
  have hSW2 := hSA _ hHeld (.cells #[.int .u8 (48 + (r : Int))] 5)
  refine hK.out _ _ hSW2 (fun hHeldZ => ?_)
  clear hK K
  try simp only [List.getElem_toArray, List.getElem_cons_zero, List.getElem_cons_succ, Act.put, List.setIfInBounds_toArray, List.set_cons_zero, List.set_cons_succ]
  refine wpAnyH_ready (rs := [2, 8]) (by kernel_rfl) (by simp) ?_
  refine AllReadyH.cons rfl (fun K hK => ?_) ?_
  · skip
    try simp only [List.getElem_toArray, List.getElem_cons_zero, List.getElem_cons_succ]
    go_simp
    refine (IH.out _).mono ?_
    rintro e W3 ⟨rfl, hb3⟩
    go_wp2_with fail
    have hSW3 := hSB _ _ hSW2 hb3
    refine hK.out _ _ hSW3 (fun hHeldZ => ?_)
    clear hK K
    try simp only [List.getElem_toArray, List.getElem_cons_zero, List.getElem_cons_succ, Act.put, List.setIfInBounds_toArray, List.set_cons_zero, List.set_cons_succ]
    refine wpAnyH_ready (rs := [8]) (by kernel_rfl) (by simp) ?_
    refine AllReadyH.cons rfl (fun K hK => ?_) AllReadyH.nil
    try simp only [List.getElem_toArray, List.getElem_cons_zero, List.getElem_cons_succ]
    have kc := KO.out W0 W3 hb3
    go_simp
    refine hK.out _ _ hSW3 (fun hHeldZ => ?_)
    clear hK K kc
    try simp only [List.getElem_toArray, List.getElem_cons_zero, List.getElem_cons_succ, Act.put, List.setIfInBounds_toArray, List.set_cons_zero, List.set_cons_succ]
    refine wpAnyH_take (i := 9) (v := .string (ss ++ ⟨#[UInt8.ofNat (48 + r)]⟩)) rfl (by kernel_rfl) (by kernel_rfl) (by kernel_rfl) (fun _ _ _ h => h) (Or.inl ⟨by rfl, ?y9⟩) (by assumption) ?_
    case y9 => (intro w' hSw; go_simp; (try rfl); all_goals first | omega | (rw [IntKind.wrap_i64]; omega))
    try simp only [List.getElem_toArray, List.getElem_cons_zero, List.getElem_cons_succ, Act.put, List.setIfInBounds_toArray, List.set_cons_zero, List.set_cons_succ]
    refine wpAnyH_take (i := 10) (v := .string (ss ++ ⟨#[UInt8.ofNat (48 + r)]⟩)) rfl (by kernel_rfl) (by kernel_rfl) (by kernel_rfl) (fun _ _ _ h => h) (Or.inl ⟨by rfl, ?y10⟩) (by assumption) ?_
    case y10 => (intro w' hSw; go_simp; (try rfl); all_goals first | omega | (rw [IntKind.wrap_i64]; omega))
    try simp only [List.getElem_toArray, List.getElem_cons_zero, List.getElem_cons_succ, Act.put, List.setIfInBounds_toArray, List.set_cons_zero, List.set_cons_succ]
    refine wpAnyH_done (by kernel_rfl) ?_ _
    have hX := hHeldZ
    rw [HSD.out] at hX
    go_wp2
    go_ret
    exact ⟨rfl, hX⟩
  refine AllReadyH.cons rfl (fun K hK => ?_) AllReadyH.nil
  try simp only [List.getElem_toArray, List.getElem_cons_zero, List.getElem_cons_succ]
  have kc := KN.out W0
  go_simp
  refine hK.out _ _ hSW2 (fun hHeldZ => ?_)
  clear hK K kc
  try simp only [List.getElem_toArray, List.getElem_cons_zero, List.getElem_cons_succ, Act.put, List.setIfInBounds_toArray, List.set_cons_zero, List.set_cons_succ]
  refine wpAnyH_ready (rs := [2]) (by kernel_rfl) (by simp) ?_
  refine AllReadyH.cons rfl (fun K hK => ?_) AllReadyH.nil
  try simp only [List.getElem_toArray, List.getElem_cons_zero, List.getElem_cons_succ]
  go_simp
  refine (IH.out _).mono ?_
  rintro e W3 ⟨rfl, hb3⟩
  go_wp2_with fail
  have hSW3 := hSB _ _ hSW2 hb3
  refine hK.out _ _ hSW3 (fun hHeldZ => ?_)
  clear hK K
  try simp only [List.getElem_toArray, List.getElem_cons_zero, List.getElem_cons_succ, Act.put, List.setIfInBounds_toArray, List.set_cons_zero, List.set_cons_succ]
  refine wpAnyH_take (i := 9) (v := .string (ss ++ ⟨#[UInt8.ofNat (48 + r)]⟩)) rfl (by kernel_rfl) (by kernel_rfl) (by kernel_rfl) (fun _ _ _ h => h) (Or.inl ⟨by rfl, ?y11⟩) (by assumption) ?_
  case y11 => (intro w' hSw; go_simp; (try rfl); all_goals first | omega | (rw [IntKind.wrap_i64]; omega))
  try simp only [List.getElem_toArray, List.getElem_cons_zero, List.getElem_cons_succ, Act.put, List.setIfInBounds_toArray, List.set_cons_zero, List.set_cons_succ]
  refine wpAnyH_take (i := 10) (v := .string (ss ++ ⟨#[UInt8.ofNat (48 + r)]⟩)) rfl (by kernel_rfl) (by kernel_rfl) (by kernel_rfl) (fun _ _ _ h => h) (Or.inl ⟨by rfl, ?y12⟩) (by assumption) ?_
  case y12 => (intro w' hSw; go_simp; (try rfl); all_goals first | omega | (rw [IntKind.wrap_i64]; omega))
  try simp only [List.getElem_toArray, List.getElem_cons_zero, List.getElem_cons_succ, Act.put, List.setIfInBounds_toArray, List.set_cons_zero, List.set_cons_succ]
  refine wpAnyH_done (by kernel_rfl) ?_ _
  have hX := hHeldZ
  rw [HSD.out] at hX
  go_wp2
  go_ret
  exact ⟨rfl, hX⟩
theorem refNumber_nat (u : Nat) : ∀ (w : World), (u : Int) ≤ 9223372036854775807 →
    Calls Tryd.prog 39 #[.int .i64 u] w fun e w' => e = .returned (.string ⟨(Lib.decDigits u).toArray⟩) ∧ Below w.heap.size w w' := by
  induction u using Nat.strongRecOn with
  | _ u ih =>
    intro w hu
    by_cases h : u < 10
    · exact refNumber_small u w h
    · have e : Lib.decDigits u = Lib.decDigits (u / 10) ++ [UInt8.ofNat (48 + u % 10)] := by rw [Lib.decDigits, dif_neg h]
      have hsz : (⟨(Lib.decDigits (u / 10)).toArray⟩ : ByteArray).size ≤ 100 := by
        have := Lx.nDigits_le 18 (u / 10) (by show u / 10 < 10 ^ 19; have : (10 : Nat) ^ 19 = 10000000000000000000 := by decide
                                              omega)
        show (Lib.decDigits (u / 10)).toArray.size ≤ 100
        simp [Lib.decDigits_length]
        omega
      have := refNumber_big u (u / 10) (u % 10) w hu (by omega) (by rw [Int.tdiv_eq_ediv_of_nonneg (by omega)]; omega) (by rw [Int.tmod_eq_emod_of_nonneg (by omega)]; omega) (by omega) (by omega) _ hsz (fun W => ih (u / 10) (by omega) W (by omega))
      rw [e]
      refine this.mono ?_
      rintro e' w' ⟨rfl, hb⟩
      refine ⟨?_, hb⟩
      congr 2
namespace Lx
theorem dg_min : ((List.range 19).map fun t => Lib.dg 9223372036854775808 (19 - 1 - t)) = [57, 50, 50, 51, 51, 55, 50, 48, 51, 54, 56, 53, 52, 55, 55, 53, 56, 48, 56] := by decide +kernel
theorem itoa_min (n : Int) (hn : n = -((9223372036854775808 : Nat) : Int)) : (⟨(Lib.itoa n).toArray⟩ : ByteArray) = ⟨#[45, 57, 50, 50, 51, 51, 55, 50, 48, 51, 54, 56, 53, 52, 55, 55, 53, 56, 48, 56]⟩ := by
  have e2 : Lib.decDigits 9223372036854775808 = (List.range 19).map fun t => Lib.dg 9223372036854775808 (19 - 1 - t) := by
    rw [Lib.decDigits_eq, Lib.nDigits_unique 18 9223372036854775808 (of_decide_eq_true rfl) (of_decide_eq_true rfl)]
  rw [hn, Lib.itoa_neg 9223372036854775808 (by omega), e2, dg_min]
end Lx
set_option maxRecDepth 100000 in
set_option maxHeartbeats 400000 in
theorem refNumber_min (T : ByteArray) (n : Int) (w : World) (hT : T = ⟨#[45, 57, 50, 50, 51, 51, 55, 50, 48, 51, 54, 56, 53, 52, 55, 55, 53, 56, 48, 56]⟩) (g1 : n < 0) (g2 : IntKind.i64.wrap (-n) = n) :
    Calls Tryd.prog 39 #[.int .i64 n] w fun e w' => e = .returned (.string T) ∧ Below w.heap.size w w' := by
  have HT := hide' hT
  have g3 : (n == n) = true := by simp
  clear hT
  go_enter Tryd.func39, Tryd.ntmps39
  go_wp2
  go_ret
  exact ⟨by rw [HT.out]; kernel_rfl, Below.refl _ _⟩
set_option maxRecDepth 100000 in
set_option maxHeartbeats 400000 in
theorem refNumber_neg (u : Nat) (D : ByteArray) (w : World) (hu1 : 1 ≤ u) (hu2 : (u : Int) ≤ 9223372036854775807) (hz : D.size ≤ 100)
    (c : Calls Tryd.prog 39 #[.int .i64 u] w fun e w' => e = .returned (.string D) ∧ Below w.heap.size w w') :
    Calls Tryd.prog 39 #[.int .i64 (-(u : Int))] w fun e w' => e = .returned (.string ((⟨#[45]⟩ : ByteArray) ++ D)) ∧ Below w.heap.size w w' := by
  have g1 : (-(u : Int)) < 0 := by omega
  have g2 : IntKind.i64.wrap (-(-(u : Int))) = u := by rw [IntKind.wrap_i64]; omega
  have g4 : IntKind.i64.wrap (u : Int) = u := by rw [IntKind.wrap_i64]; omega
  have g3 : ((-(u : Int)) == (u : Int)) = false := by simp; omega
  have h1 : (⟨#[45]⟩ : ByteArray).size + D.size ≤ 9223372036854775807 := by show 1 + D.size ≤ _; omega
  have C := hide' c
  clear c hz hu1
  go_enter Tryd.func39, Tryd.ntmps39
  go_wp2_with fail
  refine C.out.mono ?_
  rintro e w' ⟨rfl, hb⟩
  have HB := hide' hb
  clear C hb
  go_wp2
  go_ret
  exact ⟨rfl, HB.out⟩
theorem refNumber_any (n : Int) (w : World) (h0 : -9223372036854775808 ≤ n) (h1 : n ≤ 9223372036854775807) :
    Calls Tryd.prog 39 #[.int .i64 n] w fun e w' => e = .returned (.string ⟨(Lib.itoa n).toArray⟩) ∧ Below w.heap.size w w' := by
  by_cases hn : n < 0
  · by_cases hm : n = -9223372036854775808
    · exact refNumber_min _ n w (Lx.itoa_min n hm) hn (by rw [IntKind.wrap_i64]; omega)
    · obtain ⟨u, rfl⟩ : ∃ u : Nat, n = -(u : Int) := ⟨n.natAbs, by omega⟩
      have hu1 : 1 ≤ u := by omega
      have hu2 : (u : Int) ≤ 9223372036854775807 := by omega
      have hz : (⟨(Lib.decDigits u).toArray⟩ : ByteArray).size ≤ 100 := by
        have := Lx.nDigits_le 18 u (by show u < 10 ^ 19; have : (10 : Nat) ^ 19 = 10000000000000000000 := by decide
                                       omega)
        show (Lib.decDigits u).toArray.size ≤ _
        simp [Lib.decDigits_length]
        omega
      have hcat : (⟨#[45]⟩ : ByteArray) ++ ⟨(Lib.decDigits u).toArray⟩ = ⟨(45 :: Lib.decDigits u).toArray⟩ := by
        apply ByteArray.ext
        simp [ByteArray.data_append]
      rw [Lib.itoa_neg u hu1, ← hcat]
      exact refNumber_neg u _ w hu1 hu2 hz (refNumber_nat u w hu2)
  · obtain ⟨u, rfl⟩ : ∃ u : Nat, n = (u : Int) := ⟨n.toNat, by omega⟩
    rw [Lib.itoa_nonneg]
    exact refNumber_nat u w h1
end Go.Proofs.YtoccedbnnafjcaaDoor
/-
  THE WALK over gimletref10.Print.
-/
namespace Go.Proofs.YtoccedbnnafjcaaDoor
open Go.RowKit Go.Lib
namespace Lx
/-- the quote behind so many bytes -/
def quoK (tx : ByteArray) (k : Nat) : ByteArray := ⟨#[if (34 : UInt8) ∈ tx.data.toList.take k then 39 else 34]⟩
theorem quoK_zero (tx : ByteArray) : quoK tx 0 = ⟨#[34]⟩ := by unfold quoK; simp
theorem quoK_all (tx : ByteArray) : quoK tx tx.size = ⟨#[quo tx]⟩ := by
  unfold quoK quo
  rw [List.take_of_length_le (by show tx.data.toList.length ≤ tx.data.size; simp)]
theorem quoK_next (tx : ByteArray) (k : Nat) (h : k < tx.size) : quoK tx (k + 1) = if (tx[k] : UInt8) = 34 then ⟨#[39]⟩ else quoK tx k := by
  have hl : k < tx.data.toList.length := by simpa using h
  unfold quoK
  rw [List.take_succ_eq_append_getElem hl]
  have e : tx.data.toList[k] = tx[k] := by simp; rfl
  rw [e]
  by_cases c : tx[k] = 34
  · rw [if_pos c, if_pos (by rw [c]; simp)]
  · rw [if_neg c]
    have hm : (34 : UInt8) ∈ tx.data.toList.take k ++ [tx[k]] ↔ (34 : UInt8) ∈ tx.data.toList.take k := by
      rw [List.mem_append, List.mem_singleton]
      exact ⟨fun h => h.resolve_right (fun e => c e.symm), .inl⟩
    simp only [hm]
theorem pr_first (L : Nat → Int × ByteArray × Int) (i : Nat) (h : i = 0) : pr L (i + 1) = pr L i ++ pt (L i) := by
  subst h
  show pt (L 0) = (⟨#[]⟩ : ByteArray) ++ pt (L 0)
  apply ByteArray.ext
  simp [ByteArray.data_append]
theorem pr_next (L : Nat → Int × ByteArray × Int) (i : Nat) (h : i ≠ 0) : pr L (i + 1) = pr L i ++ ⟨#[32]⟩ ++ pt (L i) := if_neg h
end Lx
set_option maxRecDepth 100000 in
set_option maxHeartbeats 8000000 in
theorem lxRefPrint (v : Value) (n : Nat) (X : Nat → Lx.Wx) (w : World) (hR : Lx.WRow w v n X) (hs : ∀ i, i < n → (X i).tx.size ≤ 1099511627776 ∧ -9223372036854775808 ≤ (X i).nm ∧ (X i).nm ≤ 9223372036854775807) (ht : Lx.tsz (fun i => (X i).key) n ≤ 70368744177664) :
    Calls Tryd.prog 14 #[v] w fun e w' => e = .returned (.string (Lx.pr (fun i => (X i).key) n)) ∧ Below w.heap.size w w' := by
  obtain ⟨p, cap, rfl, c1, c2, c3⟩ := hR
  obtain ⟨L, hL⟩ : ∃ L, L = fun i => (X i).key := ⟨_, rfl⟩
  have hLi : ∀ i, L i = (X i).key := fun i => by rw [hL]
  rw [← hL] at ht ⊢
  clear hL
  have H3 := hide' c3
  have HS := hide' hs
  have HL := hide' hLi
  have HT := hide' ht
  clear c3 hs hLi ht
  go_enter Tryd.func14, Tryd.ntmps14
  go_wp2_with fail
  go_loopw [3, 4] (fun v3 v4 wr => ∃ i : Nat, v3 = .string (Lx.pr L i) ∧ v4 = .int .i64 i ∧ i ≤ n ∧ Below w.heap.size w wr) (fun _ v _ => n - (RowKit.intOf v).toNat)
  case atStart => exact ⟨0, rfl, rfl, Nat.zero_le _, Below.refl _ _⟩
  case round =>
    obtain ⟨i, rfl, rfl, hi, hbr⟩ := hrel
    have HB := hide' hbr
    clear hbr
    obtain ⟨w4, rfl⟩ : ∃ w4, w4 = wr := ⟨_, rfl⟩
    by_cases hlt : i < n
    · have t1 : (i : Int) < (n : Int) := by omega
      obtain ⟨b, o, rfl, kc⟩ := H3.out (by omega)
      have jc : ∀ j u, (X i).cs[j]? = some u → w4.cell? ⟨b, o + i * 7 + j, none⟩ = some u := fun j u h2 => (HB.out.cell (p := ⟨b, o + i * 7 + j, none⟩) (block_lt_of_cell (kc i j u hlt h2))).trans (kc i j u hlt h2)
      obtain ⟨s1, s2, s3⟩ := HS.out i hlt
      have eL := HL.out i
      have hle0 := Lx.pr_le (L := L) (i := i) (n := n) (by omega)
      have hT := HT.out
      have hz : (Lx.pr L i).size ≤ 70368744177664 := by omega
      obtain ⟨x, hx⟩ : ∃ x, X i = x := ⟨_, rfl⟩
      rw [hx] at jc s1 s2 s3 eL
      clear hx kc H3 HS HL HT hle0 hT
      obtain ⟨k, tx, nm, q0, q1, q2, q3⟩ := x
      have p0 : w4.cell? ⟨b, o + i * 7, none⟩ = some (.int .i64 k) := jc 0 _ rfl
      have p1 : w4.cell? ⟨b, o + i * 7 + 1, none⟩ = some (.string tx) := jc 1 _ rfl
      have p2 : w4.cell? ⟨b, o + i * 7 + 2, none⟩ = some (.int .i64 nm) := jc 2 _ rfl
      have p3 : w4.cell? ⟨b, o + i * 7 + 3, none⟩ = some (.int .i64 q0) := jc 3 _ rfl
      have p4 : w4.cell? ⟨b, o + i * 7 + 4, none⟩ = some (.int .i64 q1) := jc 4 _ rfl
      have p5 : w4.cell? ⟨b, o + i * 7 + 5, none⟩ = some (.int .i64 q2) := jc 5 _ rfl
      have p6 : w4.cell? ⟨b, o + i * 7 + 6, none⟩ = some (.int .i64 q3) := jc 6 _ rfl
      have cN := fun W => refNumber_any nm W s2 s3
      have hzN : (⟨(Lib.itoa nm).toArray⟩ : ByteArray).size ≤ 20 := by
        have := Lx.itoa_size nm s2 s3
        show (Lib.itoa nm).toArray.size ≤ 20
        simpa using this
      have eL2 : L i = (k, tx, nm) := eL
      dsimp only at s1
      obtain ⟨D, hD⟩ : ∃ D : ByteArray, D = ⟨(Lib.itoa nm).toArray⟩ := ⟨_, rfl⟩
      rw [← hD] at hzN cN
      have ePt2 : k = 2 → Lx.pt (L i) = D := fun h => by rw [eL2, h, hD]; exact Lx.pt_num tx nm
      have ePt1 : k = 1 → Lx.pt (L i) = (⟨#[Lx.quo tx]⟩ : ByteArray) ++ tx ++ ⟨#[Lx.quo tx]⟩ := fun h => by rw [eL2, h]; rfl
      have ePt0 : k ≠ 2 → k ≠ 1 → Lx.pt (L i) = tx := fun h h1 => by rw [eL2]; exact Lx.pt_else k tx nm h h1
      have HE := hide' (And.intro ePt2 (And.intro ePt1 ePt0))
      have CN := hide' cN
      have HBW := hide' (HB.out.alloc HB.out.size (.cells #[.int .i64 k, .string tx, .int .i64 nm, .int .i64 q0, .int .i64 q1, .int .i64 q2, .int .i64 q3] 43))
      clear jc eL eL2 ePt2 ePt1 ePt0 cN hD s2 s3
      by_cases h0 : i = 0
      · have g0 : ¬ (0 : Int) < (i : Int) := by omega
        have H0 := hide' h0
        clear h0
        by_cases h2 : k = 2
        · have g2 : (k == 2) = true := by simpa using h2
          have E := hide' (HE.out.1 h2)
          clear h2 HE
          go_wp2_with fail
          refine (CN.out _).mono ?_
          rintro e w5 ⟨rfl, hb5⟩
          have HB5 := hide' (HBW.out.trans (hb5.mono HBW.out.size))
          clear hb5
          go_wp2
          exact ⟨⟨i + 1, by rw [Lx.pr_first L i H0.out, E.out], rfl, hlt, HB5.out⟩, by simp [RowKit.intOf]; omega⟩
        · have g2 : (k == 2) = false := by simpa using h2
          by_cases h1 : k = 1
          · have g3 : (k == 1) = true := by simpa using h1
            have E := hide' (HE.out.2.1 h1)
            clear h1 h2 HE CN
            go_wp2_with fail
            have x1 : (w4.alloc (.cells #[.int .i64 k, .string tx, .int .i64 nm, .int .i64 q0, .int .i64 q1, .int .i64 q2, .int .i64 q3] 43)).cell? ⟨w4.heap.size, 1, none⟩ = some (.string tx) := by rw [Lib.cell_of_heap (Lx.heap_new w4 _)]; rfl
            generalize w4.alloc (.cells #[.int .i64 k, .string tx, .int .i64 nm, .int .i64 q0, .int .i64 q1, .int .i64 q2, .int .i64 q3] 43) = W1 at x1 HBW ⊢
            clear p0 p1 p2 p3 p4 p5 p6
            go_loopw [6, 7] (fun v6 v7 wx => ∃ y : Nat, v6 = .string (Lx.quoK tx y) ∧ v7 = .int .i64 y ∧ y ≤ tx.size ∧ wx = W1) (fun _ v _ => tx.size - (RowKit.intOf v).toNat)
            case atStart => exact ⟨0, by rw [Lx.quoK_zero], rfl, Nat.zero_le _, rfl⟩
            case round =>
              obtain ⟨y, rfl, rfl, hy, rfl⟩ := hrel
              by_cases hyl : y < tx.size
              · have t2 : (y : Int) < (tx.size : Int) := by omega
                have eN := Lx.quoK_next tx y hyl
                by_cases c : (tx[y] : UInt8) = 34
                · have g : (((tx[y] : UInt8).toNat : Int) == 34) = true := by rw [c]; rfl
                  rw [if_pos c] at eN
                  have HN := hide' eN
                  clear c eN
                  go_wp2
                  exact ⟨⟨y + 1, by rw [HN.out], rfl, hyl, trivial⟩, by simp [RowKit.intOf]; omega⟩
                · have g : (((tx[y] : UInt8).toNat : Int) == 34) = false := by
                    rw [beq_eq_false_iff_ne]
                    intro e
                    exact c (UInt8.toNat_inj.1 (by show _ = 34; omega))
                  rw [if_neg c] at eN
                  have HN := hide' eN
                  clear c eN
                  go_wp2
                  exact ⟨⟨y + 1, by rw [HN.out], rfl, hyl, trivial⟩, by simp [RowKit.intOf]; omega⟩
              · obtain rfl : y = tx.size := by omega
                rw [Lx.quoK_all]
                have t2 : ¬ (tx.size : Int) < (tx.size : Int) := by omega
                have zq : (⟨#[Lx.quo tx]⟩ : ByteArray).size = 1 := rfl
                go_wp2
                exact ⟨⟨i + 1, by rw [Lx.pr_first L i H0.out, E.out], rfl, hlt, HBW.out⟩, by simp [RowKit.intOf]; omega⟩
          · have g3 : (k == 1) = false := by simpa using h1
            have E := hide' (HE.out.2.2 h2 h1)
            clear h1 h2 HE CN
            go_wp2
            exact ⟨⟨i + 1, by rw [Lx.pr_first L i H0.out, E.out], rfl, hlt, HBW.out⟩, by simp [RowKit.intOf]; omega⟩
      · have g0 : (0 : Int) < (i : Int) := by omega
        have H0 := hide' h0
        clear h0
        by_cases h2 : k = 2
        · have g2 : (k == 2) = true := by simpa using h2
          have E := hide' (HE.out.1 h2)
          clear h2 HE
          go_wp2_with fail
          refine (CN.out _).mono ?_
          rintro e w5 ⟨rfl, hb5⟩
          have HB5 := hide' (HBW.out.trans (hb5.mono HBW.out.size))
          clear hb5
          go_wp2
          exact ⟨⟨i + 1, by rw [Lx.pr_next L i H0.out, E.out], rfl, hlt, HB5.out⟩, by simp [RowKit.intOf]; omega⟩
        · have g2 : (k == 2) = false := by simpa using h2
          by_cases h1 : k = 1
          · have g3 : (k == 1) = true := by simpa using h1
            have E := hide' (HE.out.2.1 h1)
            clear h1 h2 HE CN
            go_wp2_with fail
            have x1 : (w4.alloc (.cells #[.int .i64 k, .string tx, .int .i64 nm, .int .i64 q0, .int .i64 q1, .int .i64 q2, .int .i64 q3] 43)).cell? ⟨w4.heap.size, 1, none⟩ = some (.string tx) := by rw [Lib.cell_of_heap (Lx.heap_new w4 _)]; rfl
            generalize w4.alloc (.cells #[.int .i64 k, .string tx, .int .i64 nm, .int .i64 q0, .int .i64 q1, .int .i64 q2, .int .i64 q3] 43) = W1 at x1 HBW ⊢
            clear p0 p1 p2 p3 p4 p5 p6
            go_loopw [6, 7] (fun v6 v7 wx => ∃ y : Nat, v6 = .string (Lx.quoK tx y) ∧ v7 = .int .i64 y ∧ y ≤ tx.size ∧ wx = W1) (fun _ v _ => tx.size - (RowKit.intOf v).toNat)
            case atStart => exact ⟨0, by rw [Lx.quoK_zero], rfl, Nat.zero_le _, rfl⟩
            case round =>
              obtain ⟨y, rfl, rfl, hy, rfl⟩ := hrel
              by_cases hyl : y < tx.size
              · have t2 : (y : Int) < (tx.size : Int) := by omega
                have eN := Lx.quoK_next tx y hyl
                by_cases c : (tx[y] : UInt8) = 34
                · have g : (((tx[y] : UInt8).toNat : Int) == 34) = true := by rw [c]; rfl
                  rw [if_pos c] at eN
                  have HN := hide' eN
                  clear c eN
                  go_wp2
                  exact ⟨⟨y + 1, by rw [HN.out], rfl, hyl, trivial⟩, by simp [RowKit.intOf]; omega⟩
                · have g : (((tx[y] : UInt8).toNat : Int) == 34) = false := by
                    rw [beq_eq_false_iff_ne]
                    intro e
                    exact c (UInt8.toNat_inj.1 (by show _ = 34; omega))
                  rw [if_neg c] at eN
                  have HN := hide' eN
                  clear c eN
                  go_wp2
                  exact ⟨⟨y + 1, by rw [HN.out], rfl, hyl, trivial⟩, by simp [RowKit.intOf]; omega⟩
              · obtain rfl : y = tx.size := by omega
                rw [Lx.quoK_all]
                have t2 : ¬ (tx.size : Int) < (tx.size : Int) := by omega
                have zq : (⟨#[Lx.quo tx]⟩ : ByteArray).size = 1 := rfl
                go_wp2
                exact ⟨⟨i + 1, by rw [Lx.pr_next L i H0.out, E.out], rfl, hlt, HBW.out⟩, by simp [RowKit.intOf]; omega⟩
          · have g3 : (k == 1) = false := by simpa using h1
            have E := hide' (HE.out.2.2 h2 h1)
            clear h1 h2 HE CN
            go_wp2
            exact ⟨⟨i + 1, by rw [Lx.pr_next L i H0.out, E.out], rfl, hlt, HBW.out⟩, by simp [RowKit.intOf]; omega⟩
    · have t1 : ¬ (i : Int) < (n : Int) := by omega
      obtain rfl : i = n := by omega
      clear hi hlt H3 HS HL HT
      go_wp2
      go_ret
      exact ⟨rfl, HB.out⟩
end Go.Proofs.YtoccedbnnafjcaaDoor
/-
  THE WALK over gimletlaw10.alike, where the words are alike.
-/
namespace Go.Proofs.YtoccedbnnafjcaaDoor
open Go.RowKit Go.Lib
set_option maxRecDepth 100000 in
set_option maxHeartbeats 4000000 in
theorem lxAlike (va vb : Value) (n : Nat) (X Y : Nat → Lx.Wx) (pl : Bool) (w : World) (hA : Lx.WRow w va n X) (hB : Lx.WRow w vb n Y) (hk : ∀ i, i < n → (X i).key = (Y i).key) (hp : pl = true → ∀ i, i < n → X i = Y i) :
    Calls Tryd.prog 10 #[va, vb, .bool pl] w fun e w' => e = .returned (.bool true) ∧ Below w.heap.size w w' := by
  obtain ⟨pa, ca, rfl, a1, a2, a3⟩ := hA
  obtain ⟨pb, cb, rfl, b1, b2, b3⟩ := hB
  have HA := hide' a3
  have HB := hide' b3
  have HK := hide' hk
  have HP := hide' hp
  clear a3 b3 hk hp
  go_enter Tryd.func10, Tryd.ntmps10
  go_wp2_with fail
  go_loopw [7] (fun v wr => ∃ i : Nat, v = .int .i64 i ∧ i ≤ n ∧ Below w.heap.size w wr) (fun v _ => n - (RowKit.intOf v).toNat)
  case atStart => exact ⟨0, rfl, Nat.zero_le _, Below.refl _ _⟩
  case round =>
    obtain ⟨i, rfl, hi, hbr⟩ := hrel
    have HR := hide' hbr
    clear hbr
    by_cases hlt : i < n
    · have t1 : (i : Int) < (n : Int) := by omega
      obtain ⟨g, o, rfl, ka⟩ := HA.out (by omega)
      obtain ⟨h, q, rfl, kb⟩ := HB.out (by omega)
      have ja : ∀ j u, (X i).cs[j]? = some u → wr.cell? ⟨g, o + i * 7 + j, none⟩ = some u := fun j u h2 => (HR.out.cell (p := ⟨g, o + i * 7 + j, none⟩) (block_lt_of_cell (ka i j u hlt h2))).trans (ka i j u hlt h2)
      have jb : ∀ j u, (Y i).cs[j]? = some u → wr.cell? ⟨h, q + i * 7 + j, none⟩ = some u := fun j u h2 => (HR.out.cell (p := ⟨h, q + i * 7 + j, none⟩) (block_lt_of_cell (kb i j u hlt h2))).trans (kb i j u hlt h2)
      have ek := HK.out i hlt
      have ep := fun e => HP.out e i hlt
      obtain ⟨x, hx⟩ : ∃ x, X i = x := ⟨_, rfl⟩
      obtain ⟨y, hy⟩ : ∃ y, Y i = y := ⟨_, rfl⟩
      rw [hx] at ja ek ep
      rw [hy] at jb ek ep
      clear hx hy ka kb HA HB HK HP
      cases pl with
      | true =>
        obtain rfl := ep rfl
        obtain ⟨k, tx, nm, q0, q1, q2, q3⟩ := x
        have p0 : wr.cell? ⟨g, o + i * 7, none⟩ = some (.int .i64 k) := ja 0 _ rfl
        have p1 : wr.cell? ⟨g, o + i * 7 + 1, none⟩ = some (.string tx) := ja 1 _ rfl
        have p2 : wr.cell? ⟨g, o + i * 7 + 2, none⟩ = some (.int .i64 nm) := ja 2 _ rfl
        have p3 : wr.cell? ⟨g, o + i * 7 + 3, none⟩ = some (.int .i64 q0) := ja 3 _ rfl
        have p4 : wr.cell? ⟨g, o + i * 7 + 4, none⟩ = some (.int .i64 q1) := ja 4 _ rfl
        have p5 : wr.cell? ⟨g, o + i * 7 + 5, none⟩ = some (.int .i64 q2) := ja 5 _ rfl
        have p6 : wr.cell? ⟨g, o + i * 7 + 6, none⟩ = some (.int .i64 q3) := ja 6 _ rfl
        have r0 : wr.cell? ⟨h, q + i * 7, none⟩ = some (.int .i64 k) := jb 0 _ rfl
        have r1 : wr.cell? ⟨h, q + i * 7 + 1, none⟩ = some (.string tx) := jb 1 _ rfl
        have r2 : wr.cell? ⟨h, q + i * 7 + 2, none⟩ = some (.int .i64 nm) := jb 2 _ rfl
        have r3 : wr.cell? ⟨h, q + i * 7 + 3, none⟩ = some (.int .i64 q0) := jb 3 _ rfl
        have r4 : wr.cell? ⟨h, q + i * 7 + 4, none⟩ = some (.int .i64 q1) := jb 4 _ rfl
        have r5 : wr.cell? ⟨h, q + i * 7 + 5, none⟩ = some (.int .i64 q2) := jb 5 _ rfl
        have r6 : wr.cell? ⟨h, q + i * 7 + 6, none⟩ = some (.int .i64 q3) := jb 6 _ rfl
        clear ja jb ek ep
        go_wp2_with fail
        go_quiet (fail)
        go_wp2_with fail
        exact ⟨⟨i + 1, rfl, hlt, below_drewN HR.out nq⟩, by simp [RowKit.intOf]; omega⟩
      | false =>
        obtain ⟨k, tx, nm, q0, q1, q2, q3⟩ := x
        obtain ⟨k', tx', nm', z0, z1, z2, z3⟩ := y
        simp only [Lx.Wx.key, Prod.mk.injEq] at ek
        obtain ⟨rfl, rfl, rfl⟩ := ek
        have p0 : wr.cell? ⟨g, o + i * 7, none⟩ = some (.int .i64 k) := ja 0 _ rfl
        have p1 : wr.cell? ⟨g, o + i * 7 + 1, none⟩ = some (.string tx) := ja 1 _ rfl
        have p2 : wr.cell? ⟨g, o + i * 7 + 2, none⟩ = some (.int .i64 nm) := ja 2 _ rfl
        have r0 : wr.cell? ⟨h, q + i * 7, none⟩ = some (.int .i64 k) := jb 0 _ rfl
        have r1 : wr.cell? ⟨h, q + i * 7 + 1, none⟩ = some (.string tx) := jb 1 _ rfl
        have r2 : wr.cell? ⟨h, q + i * 7 + 2, none⟩ = some (.int .i64 nm) := jb 2 _ rfl
        clear ja jb ep
        go_wp2_with fail
        go_quiet (fail)
        go_wp2_with fail
        exact ⟨⟨i + 1, rfl, hlt, below_drewN HR.out nq⟩, by simp [RowKit.intOf]; omega⟩
    · have t1 : ¬ (i : Int) < (n : Int) := by omega
      clear hlt hi HA HB HK HP
      go_wp2
      go_ret
      exact ⟨rfl, HR.out⟩
end Go.Proofs.YtoccedbnnafjcaaDoor
/-
  THE WALK over gimletlaw10.LexisPrints.
-/
namespace Go.Proofs.YtoccedbnnafjcaaDoor
open Go.RowKit Go.Lib
namespace Lx
/-- the cells of words -/
def wxs (X : Nat → Wx) (n : Nat) : List Value := (List.range n).flatMap fun i => (X i).cs.toList
theorem wxs_succ (X : Nat → Wx) (n : Nat) : wxs X (n + 1) = wxs X n ++ (X n).cs.toList := by simp [wxs, List.range_succ]
theorem wxs_length (X : Nat → Wx) : ∀ n, (wxs X n).length = n * 7
  | 0 => rfl
  | n + 1 => by
    rw [wxs_succ, List.length_append, wxs_length X n]
    show n * 7 + 7 = _
    omega
theorem wxs_get (X : Nat → Wx) : ∀ (n i j : Nat), i < n → j < 7 → (wxs X n)[i * 7 + j]? = (X i).cs[j]?
  | 0, i, j, h, _ => by omega
  | n + 1, i, j, h, hj => by
    rw [wxs_succ]
    by_cases c : i < n
    · rw [List.getElem?_append_left (by rw [wxs_length]; omega), wxs_get X n i j c hj]
    · obtain rfl : i = n := by omega
      rw [List.getElem?_append_right (by rw [wxs_length]; omega), wxs_length, show i * 7 + j - i * 7 = j by omega, Array.getElem?_toList]
theorem wxs_one (X : Nat → Wx) (n : Nat) : ∀ u ∈ wxs X n, u.oneCell' = true := by
  intro u hu
  simp only [wxs, List.mem_flatMap] at hu
  obtain ⟨i, _, hu⟩ := hu
  simp [Wx.cs] at hu
  rcases hu with rfl | rfl | rfl | rfl | rfl | rfl | rfl <;> rfl
theorem WRow.own {W : World} {B n : Nat} {v : Value} {X : Nat → Wx} (h : W.ownsRow B 43 7 v n (wxs X n)) : WRow W v n X := by
  by_cases h0 : 0 < n
  · obtain ⟨g, cap, rfl, c1, c2, _, c4⟩ := row_shape h h0
    refine ⟨_, cap, rfl, c1, by unfold maxLen at c2; omega, fun _ => ⟨g, 0, rfl, fun i j u h1 h2 => ?_⟩⟩
    have hj : j < 7 := by
      have := (Array.getElem?_eq_some_iff.1 h2).1
      exact this
    rw [Nat.zero_add]
    exact c4 _ u (by rw [wxs_get X n i j h1 hj]; exact h2)
  · rcases h.2 with ⟨e1, e2⟩ | ⟨g, cap, cur, e1, _, _, c1, c2, _⟩
    · exact ⟨none, 0, by rw [e1, e2], by omega, by omega, fun h => absurd h h0⟩
    · exact ⟨_, cap, e1, c1, by unfold maxLen at c2; omega, fun h => absurd h h0⟩
/-- a word of a query, as it lies in memory -/
def wxOf (f : Nat → Nat) (n : Nat) (x : Nat × Wd) : Wx := ⟨x.2.k, x.2.tx, x.2.nm, x.1, (Rn.plc f n x.1).1, (Rn.plc f n x.1).2.1, (Rn.plc f n x.1).2.2⟩
def wxL (f : Nat → Nat) (n : Nat) (l : List (Nat × Wd)) : Nat → Wx := fun i => (l[i]?.map (wxOf f n)).getD ⟨0, ⟨#[]⟩, 0, 0, 0, 0, 0⟩
theorem wxL_key (f : Nat → Nat) (n : Nat) (l : List (Nat × Wd)) : (fun i => (wxL f n l i).key) = nth l := by
  funext i
  unfold wxL nth
  cases l[i]? <;> rfl
theorem wdls_wxs (f : Nat → Nat) (n : Nat) (l : List (Nat × Wd)) : wdls f n l = wxs (wxL f n l) l.length := by
  have hlen : ∀ m : List (Nat × Wd), (wdls f n m).length = m.length * 7 := by
    intro m
    induction m with
    | nil => rfl
    | cons x m ih =>
      have e : wdls f n (x :: m) = wdl f n x ++ wdls f n m := by simp [wdls]
      rw [e, List.length_append, wdl_length, ih, List.length_cons]
      omega
  apply List.ext_getElem?
  intro t
  by_cases h : t / 7 < l.length
  · have e : t / 7 * 7 + t % 7 = t := by omega
    have hx : l[t / 7]? = some l[t / 7] := List.getElem?_eq_getElem h
    have h1 := wdls_get f n l (t / 7) l[t / 7] (t % 7) hx (by omega)
    have h2 := wxs_get (wxL f n l) l.length (t / 7) (t % 7) h (by omega)
    rw [e] at h1 h2
    rw [h1, h2]
    unfold wxL
    rw [hx]
    show (wdC _ _ _ _).toList[t % 7]? = _
    rw [Array.getElem?_toList]
    rfl
  · rw [List.getElem?_eq_none (by rw [hlen]; omega), List.getElem?_eq_none (by rw [wxs_length]; omega)]
/-- words that came in -/
def WArg (W : World) (v : Value) (n : Nat) (X : Nat → Wx) : Prop := WRow W v n X ∧ (v = .slice none 0 0 ∨ ∃ ad cap, v = .slice (some ad) n cap)
theorem WArg.below {W W' : World} {B : Nat} {v : Value} {n : Nat} {X : Nat → Wx} (h : WArg W v n X) (hb : Below B W W') (hB : W.heap.size ≤ B) : WArg W' v n X := ⟨h.1.below hb hB, h.2⟩
theorem owns_noneW (w : World) : (w.alloc (.cells #[] 43)).ownsRow w.heap.size 43 7 (.slice (some ⟨w.heap.size, 0, none⟩) 0 0) 0 [] :=
  ⟨rfl, .inr ⟨w.heap.size, 0, #[], rfl, Nat.le_refl _, (by show (w.heap.push _)[w.heap.size]? = _; simp), Nat.le_refl _, by decide, rfl, rfl⟩⟩
/-- a copy of words that came in -/
theorem append_words {w : World} {ops : Array Oper} {rest : List Oper} {o : Oper} {a : Act} {Q : Exit → Act → World → Prop} (hgd : o.guard = none) (s x : Operand)
    (ho : o.op = .call { callee := .builtin .append, args := #[s, x], argTypes := #[24, 24] }) (base : Nat) (v vx : Value) (m : Nat) (X : Nat → Wx) (hs : a.eval s = v) (hown : w.ownsRow base 43 7 v 0 [])
    (hx : a.eval x = vx) (hA : WArg w vx m X) (hb : m ≤ 1099511627776) (hbase : base ≤ w.heap.size)
    (h : ∀ v' w', w'.ownsRow base 43 7 v' m (wxs X m) → w.grownBy w' v.ownBlock → wpList Tryd.prog ops Q rest (a.put o.dst v') w') : wpList Tryd.prog ops Q (o :: rest) a w := by
  obtain ⟨i0, hi, hz0, hz1, hz2⟩ := info_parts wdInfo3
  obtain ⟨⟨p, cap, e, c1, c2, c3⟩, hA2⟩ := hA
  rcases hA2 with rfl | ⟨ad, cap', rfl⟩
  · obtain rfl : m = 0 := by cases e; rfl
    refine wpList_append_own_none hgd s x 24 ho base 43 i0 7 Tryd.underlying24 hi v 0 [] hs hown hx ?_
    exact h v w hown ⟨rfl, rfl, rfl, Nat.le_refl _, fun _ _ _ => rfl⟩
  · obtain ⟨rfl, rfl⟩ : p = some ad ∧ cap = cap' := by cases e; exact ⟨rfl, rfl⟩
    refine wpList_append_own w hgd s x 24 ho base 43 i0 (.agg wd0) 7 64 Tryd.underlying24 hi hz0 hz1 hz2 rfl (by decide) v 0 [] hs hown ad m cap (wxs X m) hx (wxs_length X m) ?_ (wxs_one X m) (by unfold maxLen; omega) (by omega) hbase (fun v' w' h3 h4 _ => h v' w' (by rw [Nat.zero_add] at h3; exact h3) h4)
    intro j u hu
    have hj : j < m * 7 := by
      have := (List.getElem?_eq_some_iff.1 hu).1
      rwa [wxs_length] at this
    obtain ⟨b, q, e2, c4⟩ := c3 (by omega)
    obtain rfl : ad = ⟨b, q, none⟩ := by cases e2; rfl
    have h1 := wxs_get X m (j / 7) (j % 7) (by omega) (by omega)
    rw [show j / 7 * 7 + j % 7 = j by omega, hu] at h1
    have := c4 (j / 7) (j % 7) u (by omega) h1.symm
    rw [show q + j / 7 * 7 + j % 7 = q + j by omega] at this
    rw [show (Addr.add ⟨b, q, none⟩ j) = ⟨b, q + j, none⟩ from by simp [Addr.add]]
    exact this
/-- string to bytes -/
theorem conv_str (g : Nat → Nat) (m : Nat) (w : World) (hg : ∀ j, g j < 256) (hm : m ≤ 1099511627776) :
    ∃ v W, (convert 9 22 (.string (Rn.arr g m))).run Tryd.prog w = .ok v W ∧ ArgS W g m v ∧ Below w.heap.size w W := by
  have h := Lib.run_convert_string_bytes (P := Tryd.prog) w 9 22 5 (Rn.arr g m) Tryd.underlying9 Tryd.underlying22 Tryd.underlying5
  rw [Rn.arr_size] at h
  refine ⟨_, _, h, .some _ _ (grownCap_ge _ _ _ _) (grownCap_le_maxLen _ _ _ _ (by unfold maxLen; omega)) (fun j hj => ?_) (fun _ => ⟨_, _, rfl⟩), below_bytesWorld w 5 _⟩
  have := bytes_bytesWorld w 5 g m hg j hj
  rw [show (Addr.add ⟨w.heap.size, 0, none⟩ j) = ⟨w.heap.size, 0 + j, none⟩ from by simp [Addr.add]; omega]
  exact this
open _root_.Go.Proofs.YtoccedbnnafjcaaDoor.Fd in
/-- what is known of the words of a query -/
theorem words_facts {f : Nat → Nat} {n : Nat} (hf : ∀ j, f j < 256) (hv : V f n 0 = true) : (∀ x ∈ (words f n).1, Rdd x.2 ∧ x.2.tx.size ≤ n ∧ x.2.nm ≤ 1000000) ∧ tsz (nth (words f n).1) (words f n).1.length ≤ 8 * n := by
  have hr : Run f n 0 n := (vd_run f n).1 hv
  have hl := lead_le (f := f) (n := n) (c := 1) hf
  have hr2 : Run f n (lead f n 1) n := run_rest hr (lead_run hf hr)
  refine ⟨fun x hx => ?_, ?_⟩
  · have h1 := wds_rdd hf n _ hl hr2 x hx
    have h2 := wds_wd hf n _ hl x hx
    have h3 := rdd_facts h1
    exact ⟨h1, by omega, by omega⟩
  · have := wds_tsz hf n _ hl hr2
    unfold words
    omega
end Lx
end Go.Proofs.YtoccedbnnafjcaaDoor
/-
  THE WALK over gimletlaw10.LexisPrints: any words, any query.
-/
namespace Go.Proofs.YtoccedbnnafjcaaDoor
open Go.RowKit Go.Lib
namespace Lx
theorem prWordsE_out {f : Nat → Nat} {n : Nat} {w w' : World} {e : Ending} (h : WordsE f n w e w') : ∃ v er, e = .returned (.tuple #[v, er]) ∧ WordsE f n w (.returned (.tuple #[v, er])) w' ∧ Below w.heap.size w w' := by
  cases h with
  | bad a why d _ h hd hF hb => exact ⟨_, _, rfl, .bad a why d _ h hd hF hb, hb⟩
  | ok v _ h hv hr hb => exact ⟨_, _, rfl, .ok v _ h hv hr hb, hb⟩
end Lx
set_option maxRecDepth 1000000 in
set_option maxHeartbeats 8000000 in
theorem lawPrints_any (vw vq : Value) (n m : Nat) (X : Nat → Lx.Wx) (f : Nat → Nat) (w : World) (hT : Lib.Utf8Tabs 1 2 w) (hS : Spans w) (hG : Signs w) (hP : Lx.P10 w) (hf : ∀ j, f j < 256) (hm : m ≤ 1048576) (hn : n ≤ 1048576) (hW : Lx.WArg w vw n X) (hs : ∀ i, i < n → (X i).tx.size ≤ 1048576 ∧ -9223372036854775808 ≤ (X i).nm ∧ (X i).nm ≤ 9223372036854775807) (hq : ArgS w f m vq) :
    Calls Tryd.prog 4 #[vw, vq] w fun e w' => e = .returned (.bool true) ∧ Below w.heap.size w w' := by
  have cA := lxAwake_any w hT hS hG
  have cQ : ∀ W g l v, Below w.heap.size w W → (∀ j, g j < 256) → l ≤ 8388608 → ArgS W g l v → _ := fun W g l v hb hg hl h => words_arg g l v W (tabs_below hT hb (Nat.le_refl _)) (hS.below hb (Nat.le_refl _)) (hG.below hb (Nat.le_refl _)) hg (by omega) h
  have hts : Lx.tsz (fun i => (X i).key) n ≤ 70368744177664 := by
    have h1 := Lx.tsz_le (fun i => (X i).key) 1048600 n (fun j hj => by
      have := Lx.pt_size (X j).key (hs j hj).2.1 (hs j hj).2.2
      have h2 : (X j).key.2.1.size ≤ 1048576 := (hs j hj).1
      omega)
    have h2 : n * (1048600 + 1) ≤ 1048576 * (1048600 + 1) := Nat.mul_le_mul_right _ hn
    omega
  have hs' : ∀ i, i < n → (X i).tx.size ≤ 1099511627776 ∧ -9223372036854775808 ≤ (X i).nm ∧ (X i).nm ≤ 9223372036854775807 := fun i hi => ⟨by have := (hs i hi).1; omega, (hs i hi).2⟩
  have HP := hide' (Lib.tabBelow_of_tabIs hP)
  have HV := hide' (And.intro hW (And.intro hq (And.intro hts hs')))
  have CQ := hide' cQ
  have hn' : n ≤ 1099511627776 := by omega
  clear hT hS hG hP cQ hts hs hs' hW hq
  go_enter Tryd.func4, Tryd.ntmps4
  go_wp2_with fail
  refine cA.mono ?_
  rintro e w1 ⟨rfl, hb1⟩
  have hW1 := HV.out.1.below (hb1.alloc hb1.size (.cells #[] 43)) (Nat.le_refl _)
  clear cA
  go_wp2_with (at_builtin; refine Lx.append_words rfl _ _ rfl w1.heap.size _ _ n X rfl (Lx.owns_noneW w1) rfl hW1 hn' (by simp) ?_)
  intro v1 w2 hown hgrow
  have hB2 : Below w.heap.size w w2 := hb1.trans ((((Below.refl w1.heap.size w1).alloc (Nat.le_refl _) _).grown hgrow (by simp) (fun k hk => by simp [Value.ownBlock] at hk; omega)).mono hb1.size)
  have hr2 := Lx.WRow.own hown
  have cP := lxPrint v1 n X w2 (HP.out w2 hB2) hr2 HV.out.2.2.2 HV.out.2.2.1
  have HR2 := hide' hr2
  have HB2 := hide' hB2
  clear hgrow hown hW1 hb1 hB2 hr2
  obtain ⟨T, hT⟩ : ∃ T, T = Lx.pr (fun i => (X i).key) n := ⟨_, rfl⟩
  rw [← hT] at cP
  go_wp2_with fail
  refine cP.mono ?_
  rintro e w3 ⟨rfl, hb3⟩
  have hB3 := HB2.out.trans (hb3.mono HB2.out.size)
  have cR := lxRefPrint vw n X w3 (HV.out.1.below hB3 (Nat.le_refl _)).1 HV.out.2.2.2 HV.out.2.2.1
  rw [← hT] at cR
  have HR3 := hide' (HR2.out.below hb3 (Nat.le_refl _))
  have HB3 := hide' hB3
  clear hb3 hB3 HR2 HB2 cP hT
  go_wp2_with fail
  refine cR.mono ?_
  rintro e w4 ⟨rfl, hb4⟩
  have hB4 := HB3.out.trans (hb4.mono HB3.out.size)
  have cK := lxAlike v1 vw n X X true w4 (HR3.out.below hb4 (Nat.le_refl _)) (HV.out.1.below hB4 (Nat.le_refl _)).1 (fun _ _ => rfl) (fun _ _ _ => rfl)
  have HB4 := hide' hB4
  clear hb4 hB4 HR3 HB3 cR
  go_wp2_with fail
  refine cK.mono ?_
  rintro e w5 ⟨rfl, hb5⟩
  have hB5 := HB4.out.trans (hb5.mono HB4.out.size)
  have cW := hide' (CQ.out w5 f m vq hB5 hf (by omega) (HV.out.2.1.below hB5 (Nat.le_refl _)))
  have HB5 := hide' hB5
  clear hb5 hB5 HB4 cK
  go_wp2_with fail
  refine cW.out.mono ?_
  intro e w6 hE
  obtain ⟨va, ea, rfl, hEa, hb6⟩ := Lx.prWordsE_out hE
  have HB6 := hide' (HB5.out.trans (hb6.mono HB5.out.size))
  clear hE hb6 cW HB5
  cases hEa with
  | bad a why d _ h hd hF hb =>
    clear h hd hF hb CQ HV HP
    go_wp2
    go_ret
    exact ⟨rfl, HB6.out⟩
  | ok _ _ hfl hv hr hb =>
    obtain ⟨F1, F2⟩ := Lx.words_facts hf hv
    rw [Lx.wdls_wxs] at hr
    have hrow := Lx.WRow.own hr
    obtain ⟨g, l, hg, hga, hgf, hgw⟩ := Lx.pr_back (l := (Lx.words f m).1) (fun x hx => (F1 x hx).1) _ (Nat.le_refl _)
    rw [List.take_length] at hgw
    have hl : l ≤ 8388608 := by
      have h1 := Lx.pr_size (Lx.nth (Lx.words f m).1) (Lx.words f m).1.length
      rw [← hga, Rn.arr_size] at h1
      omega
    have hX : ∀ i, i < (Lx.words f m).1.length → (Lx.wxL f m (Lx.words f m).1 i).tx.size ≤ 1099511627776 ∧ -9223372036854775808 ≤ (Lx.wxL f m (Lx.words f m).1 i).nm ∧ (Lx.wxL f m (Lx.words f m).1 i).nm ≤ 9223372036854775807 := by
      intro i hi
      have hx : (Lx.words f m).1[i]? = some (Lx.words f m).1[i] := List.getElem?_eq_getElem hi
      have e : Lx.wxL f m (Lx.words f m).1 i = Lx.wxOf f m (Lx.words f m).1[i] := by unfold Lx.wxL; rw [hx]; rfl
      obtain ⟨_, k2, k3⟩ := F1 _ (List.getElem_mem hi)
      rw [e]
      refine ⟨?_, ?_, ?_⟩
      · show (Lx.words f m).1[i].2.tx.size ≤ _; omega
      · show _ ≤ (((Lx.words f m).1[i].2.nm : Nat) : Int); omega
      · show (((Lx.words f m).1[i].2.nm : Nat) : Int) ≤ _; omega
    have cP := lxPrint va _ _ w6 (HP.out w6 HB6.out) hrow hX (by rw [Lx.wxL_key]; omega)
    rw [Lx.wxL_key, ← hga] at cP
    have HROW := hide' hrow
    have HGW := hide' hgw
    have HGF := hide' hgf
    clear F1 F2 hr hrow hga hgw hgf hX hv hfl hb
    go_wp2_with fail
    refine cP.mono ?_
    rintro e w7 ⟨rfl, hb7⟩
    have hB7 := HB6.out.trans (hb7.mono HB6.out.size)
    obtain ⟨vF, W7, kF, hF, hbF⟩ := Lx.conv_str g l w7 hg (by omega)
    have hBF := hB7.trans (hbF.mono hB7.size)
    have cW := hide' (CQ.out W7 g l vF hBF hg hl hF)
    have HR7 := hide' ((HROW.out.below hb7 (Nat.le_refl _)).below hbF (Nat.le_refl _))
    have HBF := hide' hBF
    clear hb7 hB7 hF hbF hBF cP HROW HB6
    go_wp2_with fail
    refine cW.out.mono ?_
    intro e w8 hE
    obtain ⟨vb, eb, rfl, hEb, hb8⟩ := Lx.prWordsE_out hE
    have HR8 := hide' (HR7.out.below hb8 (Nat.le_refl _))
    have HB8 := hide' (HBF.out.trans (hb8.mono HBF.out.size))
    clear hE hb8 cW HBF HR7 kF
    cases hEb with
    | bad a why d _ h hd hF hb => rw [HGF.out] at h; cases h
    | ok _ _ hfl2 hv2 hr2 hb2 =>
      rw [Lx.wdls_wxs] at hr2
      have hrow2 := Lx.WRow.own hr2
      have hgw := HGW.out
      have elen : (Lx.words g l).1.length = (Lx.words f m).1.length := by
        have := congrArg List.length hgw
        simpa using this
      rw [elen] at hrow2
      have cK := lxAlike va vb (Lx.words f m).1.length _ _ false w8 HR8.out hrow2 (fun i hi => by
        have h1 := congrFun (Lx.wxL_key f m (Lx.words f m).1) i
        have h2 := congrFun (Lx.wxL_key g l (Lx.words g l).1) i
        change (Lx.wxL f m (Lx.words f m).1 i).key = _ at h1
        change (Lx.wxL g l (Lx.words g l).1 i).key = _ at h2
        rw [h1, h2]
        have h3 := congrArg (·[i]?) hgw
        simp only [List.getElem?_map] at h3
        unfold Lx.nth
        rw [h3]) (fun h => by cases h)
      clear hrow2 hr2 hgw elen hfl2 hv2 hb2 HR8 HGW HGF
      go_wp2_with fail
      refine cK.mono ?_
      rintro e w9 ⟨rfl, hb9⟩
      have HB9 := hide' (HB8.out.trans (hb9.mono HB8.out.size))
      clear cK hb9
      go_wp2
      go_ret
      exact ⟨rfl, HB9.out⟩
end Go.Proofs.YtoccedbnnafjcaaDoor
