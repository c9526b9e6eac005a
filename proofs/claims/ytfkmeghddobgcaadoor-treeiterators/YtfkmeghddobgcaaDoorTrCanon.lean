/-
  WALKS over canon.startTag, canon.Event and canon.Print.
-/
import Derived.Test.YtfkmeghddobgcaaDoorTrDocC
import Derived.Test.YtfkmeghddobgcaaDoorRfEsc
import Derived.Test.YtfkmeghddobgcaaDoorRfBld
namespace Go.Proofs.YtfkmeghddobgcaaDoor
open Go.RowKit Go.Lib
namespace Tr
/-- a Builder of one's own: all lies from the block N on -/
structure Bld (N : Nat) (w : World) (l : List UInt8) (W : World) : Prop where
  out : Lib.IsBuilderF 77 5 N N (Lib.byteCells l) W
  bel : Below N w W
  lt : N < W.heap.size
theorem Bld.below {N : Nat} {w W W' : World} {l : List UInt8} (h : Bld N w l W) (hb : Below W.heap.size W W') : Bld N w l W' := by
  refine ⟨?_, h.bel.trans (hb.mono (Nat.le_of_lt h.lt)), Nat.lt_of_lt_of_le h.lt hb.size⟩
  have go : ∀ {p : Value}, Lib.BuilderAtF 77 5 N N p (Lib.byteCells l) W → Lib.BuilderAtF 77 5 N N p (Lib.byteCells l) W' := by
    rintro p ⟨hB, v, hbk, hown, hne⟩
    refine ⟨hB, v, (hb.block _ h.lt).trans hbk, ⟨hown.1, ?_⟩, hne⟩
    rcases hown.2 with hn | ⟨g, cap, cur, fz, hv, hbg, hg, rest⟩
    · exact .inl hn
    · exact .inr ⟨g, cap, cur, fz, hv, hbg, (hb.block g (Array.getElem?_eq_some_iff.1 hg).1).trans hg, rest⟩
  exact h.out.elim (fun x => .inl (go x)) (fun x => .inr (go x))
theorem Bld.start (w : World) : Bld w.heap.size w [] (w.alloc (.cells #[.pointer none, .slice none 0 0] 77)) :=
  ⟨Lib.IsBuilderF.of (Lib.fresh_isBuilder 77 5 w), (Below.refl _ _).alloc (Nat.le_refl _) _, by simp⟩
end Tr
theorem bldWrite {N : Nat} {w W : World} {l : List UInt8} (h : Tr.Bld N w l W) (s : ByteArray) (hs : l.length + s.size ≤ 140737488355328) :
    Calls Tryd.prog 36 #[.pointer (some ⟨N, 0, none⟩), .string s] W fun e W1 => e = .returned (.tuple #[.int .i64 s.size, .nilIface]) ∧ Tr.Bld N w (l ++ s.data.toList) W1 ∧ (∀ k c t fz, W.heap[k]? = some (.cells c t fz) → k ≠ N → t ≠ 5 → W1.heap[k]? = some (.cells c t fz)) := by
  refine (writeString_k N N (Lib.byteCells l) s W h.out (by rw [Lib.byteCells_length]; exact hs) (Nat.le_of_lt h.lt)).mono ?_
  rintro e W1 ⟨rfl, h2, b1, k1⟩
  refine ⟨rfl, ⟨?_, h.bel.trans b1, Nat.lt_of_lt_of_le h.lt b1.size⟩, fun k c t fz hk hn ht => k1 k _ hk (fun e => hn (Option.some.inj e)) (fun c' fz' e => by cases e; exact ht rfl)⟩
  rw [Lib.byteCells_append]
  exact .inr h2
namespace Tr
/-- how an attribute is written -/
def atB (x : ByteArray × ByteArray) : List UInt8 := [32] ++ x.1.data.toList ++ [61, 34] ++ Rf.esc Rf.inV x.2.data.toList ++ [34]
/-- a start tag up to its i-th attribute -/
def stp (nm : ByteArray) (ats : List (ByteArray × ByteArray)) (i : Nat) : List UInt8 := [60] ++ nm.data.toList ++ (ats.take i).flatMap atB
def stag (nm : ByteArray) (ats : List (ByteArray × ByteArray)) : List UInt8 := stp nm ats ats.length ++ [62]
theorem stp_succ (nm : ByteArray) (ats : List (ByteArray × ByteArray)) (i : Nat) (x : ByteArray × ByteArray) (h : ats[i]? = some x) : stp nm ats (i + 1) = stp nm ats i ++ atB x := by
  obtain ⟨hi, rfl⟩ := List.getElem?_eq_some_iff.1 h
  unfold stp
  rw [List.take_succ_eq_append_getElem hi, List.flatMap_append]
  simp
theorem stp_le (nm : ByteArray) (ats : List (ByteArray × ByteArray)) (i : Nat) : (stp nm ats i).length ≤ (stag nm ats).length := by
  unfold stag stp
  have h : ((ats.take i).flatMap atB).length ≤ (ats.flatMap atB).length := by
    conv => rhs; rw [← List.take_append_drop i ats, List.flatMap_append, List.length_append]
    omega
  simp only [List.length_append, List.take_length]
  omega
/-- an event's bytes -/
def evB (e : Ev Value) : List UInt8 := if e.kind = 0 then stag e.nm e.ats else if e.kind = 1 then Rf.esc Rf.inT e.tx.data.toList else if e.kind = 2 then [60, 47] ++ e.nm.data.toList ++ [62] else []
/-- the bytes of events -/
def evsB (E : Nat → Ev Value) : Nat → List UInt8
  | 0 => []
  | n + 1 => evsB E n ++ evB (E n)
theorem evsB_le (E : Nat → Ev Value) (i : Nat) : ∀ k, (evsB E i).length ≤ (evsB E (i + k)).length
  | 0 => Nat.le_refl _
  | k + 1 => by
    have := evsB_le E i k
    show _ ≤ (evsB E (i + k) ++ _).length
    rw [List.length_append]
    omega
end Tr
set_option maxRecDepth 100000 in
set_option maxHeartbeats 4000000 in
theorem trStartTag (nm : ByteArray) (v : Value) (ats : List (ByteArray × ByteArray)) (w : World) (hA : Tr.AtRow w v ats) (hs : ∀ x ∈ ats, x.1.size ≤ 1048576 ∧ x.2.size ≤ 1048576) (hl : (Tr.stag nm ats).length ≤ 70368744177664) :
    Calls Tryd.prog 62 #[.string nm, v] w fun r w' => r = .returned (.string ⟨(Tr.stag nm ats).toArray⟩) ∧ Below w.heap.size w w' := by
  obtain ⟨p, cap, rfl, a1, a2, a2', a3⟩ := hA
  obtain ⟨n, hn⟩ : ∃ n, ats.length = n := ⟨_, rfl⟩
  rw [hn] at a1 a3 ⊢
  have hsz : (Tr.stag nm ats).length = (Tr.stp nm ats n).length + 1 := by unfold Tr.stag; rw [hn]; simp
  have hnm : nm.size + 1 ≤ (Tr.stag nm ats).length := by
    have h1 := Tr.stp_le nm ats 0
    have h2 : (Tr.stp nm ats 0).length = 1 + nm.data.toList.length := by simp [Tr.stp]; omega
    have h3 : nm.data.toList.length = nm.size := rfl
    omega
  have cV : ∀ (s : ByteArray) (W : World), s.size ≤ 1048576 → _ := fun s W h => rfValue_any s.data.toList W (by have h3 : s.data.toList.length = s.size := rfl; omega)
  have CV := hide' cV
  have HN := hide' hn
  have HA := hide' a3
  have HS := hide' hs
  have HSZ := hide' hsz
  have HL := hide' hl
  have HNM := hide' hnm
  clear cV hn a3 hs hsz hl hnm a2'
  have c1 := bldWrite (Tr.Bld.start w) ⟨#[60]⟩ (by show 0 + 1 ≤ _; omega)
  go_enter Tryd.func62, Tryd.ntmps62
  go_wp2_with fail
  refine c1.mono ?_
  rintro e w1 ⟨rfl, h1, _⟩
  clear c1
  have c2 := bldWrite h1 nm (by have h5 := HL.out; have h6 := HNM.out; simp; omega)
  have C2 := hide' c2
  clear c2 h1
  go_wp2_with fail
  refine C2.out.mono ?_
  rintro e w2 ⟨rfl, h2, _⟩
  have H2 : Hid (Tr.Bld w.heap.size w (Tr.stp nm ats 0) w2) := by
    have e1 : Tr.stp nm ats 0 = [] ++ (⟨#[60]⟩ : ByteArray).data.toList ++ nm.data.toList := by simp [Tr.stp]
    rw [e1]
    exact h2
  clear h2 C2
  go_wp2_with fail
  go_loopw [13] (fun v wr => ∃ i : Nat, v = .int .i64 i ∧ i ≤ n ∧ Hid (Tr.Bld w.heap.size w (Tr.stp nm ats i) wr)) (fun v _ => n - (RowKit.intOf v).toNat)
  case atStart => exact ⟨0, rfl, Nat.zero_le _, H2⟩
  case round =>
    obtain ⟨i, rfl, hi, HB⟩ := hrel
    clear H2
    by_cases hlt : i < n
    · have t1 : (i : Int) < (n : Int) := by omega
      obtain ⟨b, o, rfl, ka⟩ := HA.out (by omega)
      obtain ⟨x, hx⟩ : ∃ x, ats[i]? = some x := ⟨_, List.getElem?_eq_getElem (by rw [HN.out]; exact hlt)⟩
      have hx1 := HS.out x (List.mem_of_getElem? hx)
      have hsu := Tr.stp_succ nm ats i x hx
      have hle := Tr.stp_le nm ats (i + 1)
      rw [hsu, List.length_append] at hle
      have hll := HL.out
      have ea : (Tr.atB x).length = 1 + x.1.size + 2 + (Rf.esc Rf.inV x.2.data.toList).length + 1 := by
        have h3 : x.1.data.toList.length = x.1.size := rfl
        unfold Tr.atB
        simp only [List.length_append, h3, List.length_cons, List.length_nil]
      have q0 : wr.cell? ⟨b, o + i * 2, none⟩ = some (.string x.1) := (HB.out.bel.cell (p := ⟨b, o + i * 2, none⟩) (block_lt_of_cell (ka i x hx).1)).trans (ka i x hx).1
      have q1 : wr.cell? ⟨b, o + i * 2 + 1, none⟩ = some (.string x.2) := (HB.out.bel.cell (p := ⟨b, o + i * 2 + 1, none⟩) (block_lt_of_cell (ka i x hx).2)).trans (ka i x hx).2
      have hB0 := HB.out.below ((Below.refl wr.heap.size wr).alloc (Nat.le_refl _) (.cells #[.string x.1, .string x.2] 63))
      have hne : wr.heap.size ≠ w.heap.size := by have := HB.out.lt; omega
      have hblk : (wr.alloc (.cells #[.string x.1, .string x.2] 63)).heap[wr.heap.size]? = some (.cells #[.string x.1, .string x.2] 63 (0, 0)) := heap_alloc_new _ _
      have c1 := bldWrite hB0 ⟨#[32]⟩ (by show _ + 1 ≤ _; omega)
      have C1 := hide' c1
      have HBK := hide' hblk
      have HSU := hide' hsu
      have HX1 := hide' hx1
      have HLE := hide' (show (Tr.stp nm ats i).length + (1 + x.1.size + 2 + (Rf.esc Rf.inV x.2.data.toList).length + 1) ≤ 70368744177664 by omega)
      have HLT := hide' hlt
      have HNE := hide' hne
      clear c1 hB0 hblk hsu hx1 hle hll ea ka hlt hne HA HS
      go_wp2_with fail
      refine C1.out.mono ?_
      rintro e w1 ⟨rfl, h1, k1⟩
      have hb1 := k1 _ _ _ _ HBK.out HNE.out (by decide)
      have z0 : w1.cell? ⟨wr.heap.size, 0, none⟩ = some (.string x.1) := by rw [Lib.cell_of_heap hb1]; rfl
      have c2 := bldWrite h1 x.1 (by rw [List.length_append]; have := HLE.out; show _ + 1 + _ ≤ _; omega)
      have C2 := hide' c2
      have HB1 := hide' hb1
      clear C1 k1 h1 c2 hb1 q0 q1
      go_wp2_with fail
      refine C2.out.mono ?_
      rintro e w2 ⟨rfl, h2, k2⟩
      have hb2 := k2 _ _ _ _ HB1.out HNE.out (by decide)
      have c3 := bldWrite h2 ⟨#[61, 34]⟩ (by rw [List.length_append, List.length_append]; have h9 := HLE.out; have h3 : x.1.data.toList.length = x.1.size := rfl; show _ + 1 + _ + 2 ≤ _; omega)
      have C3 := hide' c3
      have HB2 := hide' hb2
      clear C2 k2 h2 c3 hb2 HB1 z0
      go_wp2_with fail
      refine C3.out.mono ?_
      rintro e w3 ⟨rfl, h3, k3⟩
      have hb3 := k3 _ _ _ _ HB2.out HNE.out (by decide)
      have z1 : w3.cell? ⟨wr.heap.size, 1, none⟩ = some (.string x.2) := by rw [Lib.cell_of_heap hb3]; rfl
      have c4 := CV.out x.2 w3 HX1.out.2
      rw [show (ByteArray.mk x.2.data.toList.toArray) = x.2 from by cases x.2; rfl] at c4
      have C4 := hide' c4
      have H3 := hide' h3
      clear C3 k3 h3 c4 hb3 HB2
      go_wp2_with fail
      refine C4.out.mono ?_
      rintro e w4 ⟨rfl, hb4⟩
      have h4 := H3.out.below hb4
      have e4 : ((⟨(Rf.esc Rf.inV x.2.data.toList).toArray⟩ : ByteArray)).size = (Rf.esc Rf.inV x.2.data.toList).length := rfl
      have c5 := bldWrite h4 ⟨(Rf.esc Rf.inV x.2.data.toList).toArray⟩ (by rw [e4, List.length_append, List.length_append, List.length_append]; have h9 := HLE.out; have h3 : x.1.data.toList.length = x.1.size := rfl; show _ + 1 + _ + 2 + _ ≤ _; omega)
      have C5 := hide' c5
      clear C4 hb4 h4 c5 H3 z1
      go_wp2_with fail
      refine C5.out.mono ?_
      rintro e w5 ⟨rfl, h5, _⟩
      have c6 := bldWrite h5 ⟨#[34]⟩ (by rw [List.length_append, List.length_append, List.length_append, List.length_append]; have h9 := HLE.out; have h3 : x.1.data.toList.length = x.1.size := rfl; show _ + 1 + _ + 2 + _ + 1 ≤ _; omega)
      have C6 := hide' c6
      clear C5 h5 c6
      go_wp2_with fail
      refine C6.out.mono ?_
      rintro e w6 ⟨rfl, h6, _⟩
      have H6 : Hid (Tr.Bld w.heap.size w (Tr.stp nm ats (i + 1)) w6) := by
        have e6 : Tr.stp nm ats (i + 1) = Tr.stp nm ats i ++ (⟨#[32]⟩ : ByteArray).data.toList ++ x.1.data.toList ++ (⟨#[61, 34]⟩ : ByteArray).data.toList ++ (⟨(Rf.esc Rf.inV x.2.data.toList).toArray⟩ : ByteArray).data.toList ++ (⟨#[34]⟩ : ByteArray).data.toList := by
          rw [HSU.out]
          simp [Tr.atB]
        rw [e6]
        exact h6
      clear C6 h6
      go_wp2_with fail
      exact ⟨⟨i + 1, rfl, HLT.out, H6⟩, by have := HLT.out; simp [RowKit.intOf]; omega⟩
    · have t1 : ¬ (i : Int) < (n : Int) := by omega
      obtain rfl : i = n := by omega
      have hll := HL.out
      have hzz := HSZ.out
      have c1 := bldWrite HB.out ⟨#[62]⟩ (by show _ + 1 ≤ _; omega)
      have C1 := hide' c1
      clear c1 HA HS CV hll hzz
      go_wp2_with fail
      refine C1.out.mono ?_
      rintro e w1 ⟨rfl, h1, _⟩
      have cT := Tryd.Builder_String_any_k w.heap.size w.heap.size _ w1 h1.out (Nat.le_of_lt h1.lt)
      have CT := hide' cT
      have H1 := hide' h1
      clear C1 h1 cT
      go_wp2_with fail
      refine CT.out.mono ?_
      rintro e w2 ⟨rfl, _, hb2, _⟩
      clear CT
      go_wp2_with fail
      go_ret
      exact ⟨by unfold Tr.stag; rw [HN.out]; rfl, H1.out.bel.trans hb2⟩
end Go.Proofs.YtfkmeghddobgcaaDoor
