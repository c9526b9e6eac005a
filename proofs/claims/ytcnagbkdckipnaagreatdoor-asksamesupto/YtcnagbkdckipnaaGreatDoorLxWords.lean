/-
  THE WALK over lexis.Words at a slice of bytes.
-/
import Derived.Test.YtcnagbkdckipnaaGreatDoorLxValid
import Derived.Test.YtcnagbkdckipnaaGreatDoorLxReadD
import Derived.Test.YtcnagbkdckipnaaGreatDoorLxWordE
namespace Go.Proofs.YtcnagbkdckipnaaGreatDoor
open Go.RowKit Go.Lib
namespace Lx
theorem at_zero (f : Nat → Nat) : Rn.off f 0 = f := Rn.off_zero f
theorem plA_size (p : Nat × Nat × Nat × Nat) : (Tryz.prog.info? 31).map (·.size) = some (plA p).size := plA_info
theorem plA_length (p : Nat × Nat × Nat × Nat) : (Tryz.prog.info? 31).map (·.size) = some (plA p).toList.length := plA_info
theorem wdC_length (k : Nat) (tx : ByteArray) (nm : Nat) (p : Nat × Nat × Nat × Nat) : (Tryz.prog.info? 86).map (·.size) = some (wdC k tx nm p).toList.length := wdInfo
/-- a place is stored, and then laid into a word -/
theorem word_mem {w4 : World} {Pb Wb : Nat} {p q r : Nat × Nat × Nat × Nat} {k : Nat} {tx : ByteArray} {nm : Nat} (hP : w4.heap[Pb]? = some (.cells (plA p) 31 (0, 0))) (hW : w4.heap[Wb]? = some (.cells (wdC k tx nm r) 86 (0, 0))) (hn : Pb ≠ Wb) :
    w4.there Pb 0 (plA q).size ∧ (w4.setCells Pb 0 (plA q).toList).rangeAt Pb 0 (plA q).toList ∧ (w4.setCells Pb 0 (plA q).toList).there Wb 3 (plA q).size ∧
    ((w4.setCells Pb 0 (plA q).toList).setCells Wb 3 (plA q).toList).rangeAt Wb 0 (wdC k tx nm q).toList ∧ ((w4.setCells Pb 0 (plA q).toList).setCells Wb 3 (plA q).toList).heap[Pb]? = some (.cells (plA q) 31 (0, 0)) := by
  have hP5 := heap_setCells (plA q).toList 0 _ _ hP
  rw [setAll_pl] at hP5
  have hW5 : (w4.setCells Pb 0 (plA q).toList).heap[Wb]? = _ := (heap_far hn.symm _ _ _).trans hW
  have hW6 := heap_setCells (plA q).toList 3 _ _ hW5
  rw [setAll_wd] at hW6
  exact ⟨there_of hP 0 4 (by simp [plA]), range_of hP5, there_of hW5 3 4 (by simp [wdC]), range_of hW6, (heap_far hn _ _ _).trans hP5⟩
theorem range_cast {w : World} {b k nm a y1 y2 y3 : Nat} {tx : ByteArray} {p : Nat × Nat × Nat × Nat} {WA : Array Value} (h : w.rangeAt b 0 WA.toList) (e : wdC k tx nm p = WA) (e1 : p = (a, y1, y2, y3)) : w.rangeAt b 0 [.int .i64 (k : Nat), .string tx, .int .i64 (nm : Nat), .int .i64 (a : Nat), .int .i64 (y1 : Nat), .int .i64 (y2 : Nat), .int .i64 (y3 : Nat)] := by
  subst e1
  subst e
  exact h
theorem size_alloc (W : World) (o : Obj) : (W.alloc o).heap.size = W.heap.size + 1 := by simp
theorem word_news (W : World) (cs : Array Value) (t : TypeId) : ∀ (j : Nat) (u : Value), cs.toList[j]? = some u → (W.alloc (.cells cs t)).cell? (Addr.add ⟨W.heap.size, 0, none⟩ j) = some u := by
  intro j u hj
  rw [show (Addr.add ⟨W.heap.size, 0, none⟩ j) = ⟨W.heap.size, j, none⟩ from by simp [Addr.add]; exact fun h => h.symm, Lib.cell_of_heap (heap_new W _), ← Array.getElem?_toList]
  exact hj
theorem Wst.below {f : Nat → Nat} {n : Nat} {w : World} {Pb at_ d fuel : Nat} {acc : List (Nat × Wd)} {v4 : Value} {wr w' : World} (h : Wst f n w Pb at_ d fuel acc v4 wr) (hb : Below wr.heap.size wr w') : Wst f n w Pb at_ d fuel acc v4 w' :=
  { h with row := row_keep h.row (fun q _ hq => hb.block q hq), pl := (hb.block _ (Array.getElem?_eq_some_iff.1 h.pl).1).trans h.pl, bl := h.bl.trans (hb.mono h.bl.size) }
theorem row_mem {wr w4 : World} {Pb Wb : Nat} {e : TypeId} {k : Nat} {u : Value} {n : Nat} {ys : List Value} (ho : wr.ownsRow (Pb + 1) e k u n ys) (hq : ∀ q, q < wr.heap.size → w4.heap[q]? = wr.heap[q]?) (hW : wr.heap.size ≤ Wb) (vs ws : List Value) : ((w4.setCells Pb 0 vs).setCells Wb 3 ws).ownsRow (Pb + 1) e k u n ys :=
  row_keep ho fun q h1 h2 => (heap_far (by omega) _ _ _).trans ((heap_far (by omega) _ _ _).trans (hq q h2))
theorem grown_below {B : Nat} {w W w' : World} {g : Option Nat} (hb : Below B w W) (hg : W.grownBy w' g) (hB : ∀ q, g = some q → B ≤ q) (hs : B ≤ w.heap.size) : Below B w w' :=
  ⟨hg.os.trans hb.os, hg.tape.trans hb.tape, hg.output.trans hb.output, Nat.le_trans hb.size hg.size, fun k hk => (hg.block k (by have := hb.size; omega) (fun e => by have := hB k e.symm; omega)).trans (hb.block k hk)⟩
end Lx
set_option maxRecDepth 100000 in
set_option maxHeartbeats 8000000 in
theorem words_any (f : Nat → Nat) (n b o cap : Nat) (w : World) (hT : Lib.Utf8Tabs 1 2 w) (hS : Spans w) (hG : Signs w) (hf : ∀ j, f j < 256) (hc : n ≤ cap) (hm : cap ≤ maxLen) (hbig : n ≤ 1099511627776) (hp : Bytes w b o n f) :
    Calls Tryz.prog 15 #[.slice (some ⟨b, o, none⟩) n cap] w fun e w' => Lx.WordsE f n w e w' := by
  obtain ⟨i0, hi, hz0, hz1, hz2⟩ := info_parts Lx.wdInfo3
  have cV := valid_any f n b o cap w hT hf hc hm hp
  have cG : ∀ w1, Below w.heap.size w w1 → _ := fun w1 hb => good_any f n b o cap w1 (tabs_below hT hb (Nat.le_refl _)) hf hc hm (hp.below hb (Nat.le_refl _))
  have cF : ∀ a why w1, a ≤ n → Below w.heap.size w w1 → _ := fun a why w1 ha hb => fault_any f n b o cap a why w1 hf ha hc hm (by omega) (hp.below hb (Nat.le_refl _))
  have hgl := Rn.good_le f n
  have hsz := Rn.arr_size f n
  have cL : ∀ w1, Below w.heap.size w w1 → _ := fun w1 hb => leading_any f n 1 w1 hf (by omega) (hS.below hb (Nat.le_refl _))
  have cL2 : ∀ a w1, Below w.heap.size w w1 → _ := fun a w1 hb => leading_any (Rn.off f a) (n - a) 1 w1 (fun _ => hf _) (by omega) (hS.below hb (Nat.le_refl _))
  have cR : ∀ a w1, a < n → Below w.heap.size w w1 → _ := fun a w1 ha hb => readWord_any (Rn.off f a) (n - a) w1 (fun _ => hf _) (by omega) (by omega) (hS.below hb (Nat.le_refl _)) (hG.below hb (Nat.le_refl _))
  have cU : ∀ d a w1, d ≤ a → a < n → Fd.Run f n 0 d → Below w.heap.size w w1 → _ := fun d a w1 hd ha hr hb => further_any f n b o cap d a w1 hf hd ha hc hm (by omega) (hp.below hb (Nat.le_refl _)) hr
  have hcv : ∀ w1, Below w.heap.size w w1 → (convert 22 9 (.slice (some ⟨b, o, none⟩) n cap)).run Tryz.prog w1 = .ok (.string (Rn.arr f n)) w1 := fun w1 hb => bytes_string _ b o n cap f hf (hp.below hb (Nat.le_refl _))
  have HC := hide' (And.intro cG (And.intro cF (And.intro cL (And.intro cL2 (And.intro cR (And.intro cU hcv))))))
  clear cG cF cL cL2 cR cU hcv hT hS hG hp
  cases hV : Lx.V f n 0
  · rw [hV] at cV
    have hfl : Lx.flt f n = some (Rn.good f n, 103) := by unfold Lx.flt; rw [if_neg (by rw [hV]; simp)]
    have HF := hide' hfl
    clear hfl hV
    go_enter Tryz.func15, Tryz.ntmps15
    go_wp2_with fail
    refine cV.mono ?_
    rintro e w1 ⟨rfl, hb1⟩
    have cG := HC.out.1 w1 hb1
    clear cV
    generalize Rn.good f n = g at *
    go_wp2_with fail
    refine cG.mono ?_
    rintro e w2 ⟨rfl, hb2⟩
    have hb3 := hb1.trans (hb2.mono hb1.size)
    have cF := HC.out.2.1 g 103 w2 hgl hb3
    clear cG
    go_wp2_with fail
    refine cF.mono ?_
    rintro e w3 ⟨d, rfl, hd, hh, hb4⟩
    have HX := hide' (And.intro hd (And.intro hh hb4))
    clear cF hd hh hb4
    go_wp2_with fail
    refine bodyPost_ret (v := .tuple #[.slice none 0 0, .iface 41 (.pointer (some ⟨d, 0, none⟩))]) (by simp [results, Tryz.results15, go_sem]) rfl ?_
    exact .bad g 103 d w3 HF.out (by have := HX.out.1; have := hb3.size; omega) HX.out.2.1 (hb3.trans (HX.out.2.2.mono hb3.size))
  · rw [hV] at cV
    have hrun := (Lx.vd_run f n).1 hV
    have hfl : Lx.flt f n = (Lx.words f n).2.map (fun a => (a, 104)) := by unfold Lx.flt; rw [if_pos hV]
    have HF := hide' (And.intro hfl hV)
    clear hfl hV
    go_enter Tryz.func15, Tryz.ntmps15
    go_wp2_with fail
    refine cV.mono ?_
    rintro e w1 ⟨rfl, hb1⟩
    have hcv := HC.out.2.2.2.2.2.2 w1 hb1
    have hbp := hb1.alloc hb1.size (.cells #[.int .i64 0, .int .i64 0, .int .i64 1, .int .i64 1] 31)
    have cL := HC.out.2.2.1 _ hbp
    have hs1 := hb1.size
    clear cV
    go_wp2_with fail
    refine cL.mono ?_
    rintro e w2 ⟨rfl, hb2⟩
    have hb3 := hbp.trans (hb2.mono hbp.size)
    have hpl : w2.heap[w1.heap.size]? = some (.cells (Lx.plA (0, Rn.plc f n 0)) 31 (0, 0)) := (hb2.block _ (by simp)).trans (Lx.heap_new w1 _)
    have HB := hide' hb3
    have HPL := hide' hpl
    have hlle := Lx.lead_le (f := f) (n := n) (c := 1) hf
    have HLR := hide' (Lx.lead_run (c := 1) hf hrun)
    clear cL hb2 hcv hbp hb3 hpl
    go_wp2_with fail
    go_loopw [4, 7] (fun v4 v7 wr => ∃ (at_ d fuel : Nat) (acc : List (Nat × Lx.Wd)), v7 = .int .i64 (at_ : Nat) ∧ Lx.Wst f n w w1.heap.size at_ d fuel acc v4 wr) (fun _ v7 _ => n - (RowKit.intOf v7).toNat)
    case atStart => exact ⟨Lx.lead f n 1, 0, n, [], rfl, ⟨World.ownsRow_nil _ _ _ _, HPL.out, .refl _, HLR.out, Nat.zero_le _, hlle, by omega, rfl, rfl, Nat.zero_le _, HB.out, hs1⟩⟩
    case round =>
      obtain ⟨at_, d, fuel, acc, rfl, I⟩ := hrel
      clear HPL HLR HB hlle
      by_cases hlt : at_ < n
      · obtain ⟨fu, rfl⟩ : ∃ fu, fuel = fu + 1 := ⟨fuel - 1, by have := I.fu; omega⟩
        have g1 : (at_ : Int) < n := by omega
        have g2 : (0 : Int) ≤ at_ := by omega
        have g3 : (at_ : Int) ≤ n := by omega
        have e1 := arr_rest f n at_
        have cR := HC.out.2.2.2.2.1 at_ wr hlt I.bl
        have sp := Lx.rd_spec (f := Rn.off f at_) (n := n - at_) (fun _ => hf _) (by omega)
        have HI := hide' I
        cases ho : (Lx.rd (Rn.off f at_) (n - at_)).ok
        · have hw := Lx.wds_bad (k := fu) hlt ho
          have hE2 : (Lx.words f n).2 = some (at_ + (Lx.rd (Rn.off f at_) (n - at_)).wd) := by rw [← I.e2, hw]
          have hflt : Lx.flt f n = some (at_ + (Lx.rd (Rn.off f at_) (n - at_)).wd, 104) := by rw [HF.out.1, hE2]; rfl
          have hle : at_ + (Lx.rd (Rn.off f at_) (n - at_)).wd ≤ n := by omega
          have HFL := hide' hflt
          have i1 := I.bl
          have i2 := I.bl.size
          unfold Lx.Wd.ans Lx.wdA Lx.wdC at cR
          rw [ho] at cR
          clear I hw hE2 hflt sp ho
          generalize Lx.rd (Rn.off f at_) (n - at_) = x at *
          go_wp2_with fail
          refine cR.mono ?_
          rintro e w3 ⟨rfl, hb3⟩
          have hb4 := i1.trans (hb3.mono i2)
          have hb5 := hb4.alloc hb4.size (.cells #[.int .i64 (x.k : Nat), .string x.tx, .int .i64 (x.nm : Nat), .int .i64 0, .int .i64 0, .int .i64 0, .int .i64 0] 86)
          have cF := HC.out.2.1 (at_ + x.wd) 104 _ hle hb5
          have w1z : (((at_ + x.wd : Nat)) : Int) = (at_ : Int) + x.wd := by omega
          rw [w1z] at cF
          clear cR hb3 w1z
          go_wp2_with fail
          refine cF.mono ?_
          rintro e w4 ⟨d4, rfl, hd4, hh4, hb6⟩
          have HX := hide' (And.intro hd4 (And.intro hh4 hb6))
          clear cF hd4 hh4 hb6
          go_wp2_with fail
          refine bodyPost_ret (v := .tuple #[.slice none 0 0, .iface 41 (.pointer (some ⟨d4, 0, none⟩))]) (by simp [results, Tryz.results15, go_sem]) rfl ?_
          exact .bad (at_ + x.wd) 104 d4 w4 HFL.out (by have := HX.out.1; have := hb5.size; omega) HX.out.2.1 (hb5.trans (HX.out.2.2.mono hb5.size))
        · have hw := Lx.wds_ok (k := fu) hlt ho
          have hnx := Lx.nxt_spec hf hlt ho
          have hE1 := I.e1
          have hE2 := I.e2
          rw [hw] at hE1 hE2
          have hra := I.ra
          have hrr := hnx.2.2.2 (Lx.run_rest hrun hra)
          have HE := hide' (And.intro hE1 (And.intro hE2 (And.intro hra (And.intro (hra.trans hrr) hnx))))
          have i1 := I.bl
          have i2 := I.bl.size
          have iLo := I.lo
          have iPl := hide' I.pl
          have iRow := hide' I.row
          have iRd := hide' I.rd
          have iDa := I.da
          have iSz := I.sz
          have iPb : w1.heap.size < wr.heap.size := (Array.getElem?_eq_some_iff.1 I.pl).1
          have hle : at_ + (Lx.rd (Rn.off f at_) (n - at_)).wd ≤ n := by omega
          have cL2 := HC.out.2.2.2.1 (at_ + (Lx.rd (Rn.off f at_) (n - at_)).wd)
          unfold Lx.Wd.ans Lx.wdA Lx.wdC at cR
          rw [ho] at cR
          have hnxd : Lx.nxt f n at_ = at_ + (Lx.rd (Rn.off f at_) (n - at_)).wd + Lx.lead (Rn.off f (at_ + (Lx.rd (Rn.off f at_) (n - at_)).wd)) (n - (at_ + (Lx.rd (Rn.off f at_) (n - at_)).wd)) 1 := rfl
          have HNX := hide' hnxd
          have cL2h := hide' cL2
          clear I hw hE1 hE2 sp ho hra hrr hnx cL2 hnxd
          generalize Lx.rd (Rn.off f at_) (n - at_) = x at *
          go_wp2_with fail
          refine cR.mono ?_
          rintro e w3 ⟨rfl, hb3⟩
          have hb4 := i1.trans (hb3.mono i2)
          have hPl3 : w3.heap[w1.heap.size]? = _ := (hb3.block _ iPb).trans iPl.out
          have hs3 := hb3.size
          have hPl3a : (w3.alloc (.cells #[.int .i64 (x.k : Nat), .string x.tx, .int .i64 (x.nm : Nat), .int .i64 0, .int .i64 0, .int .i64 0, .int .i64 0] 86)).heap[w1.heap.size]? = _ := (((Below.refl _ _).alloc (Nat.le_refl _) _).block _ (by omega)).trans hPl3
          have hb5 := hb4.alloc hb4.size (.cells #[.int .i64 (x.k : Nat), .string x.tx, .int .i64 (x.nm : Nat), .int .i64 0, .int .i64 0, .int .i64 0, .int .i64 0] 86)
          have cU := HC.out.2.2.2.2.2.1 d at_ _ iDa hlt iRd.out hb5
          have HR1 := hide' (Lx.range_of hPl3a)
          have HW := hide' (And.intro hPl3 (And.intro hb4 hb3))
          obtain ⟨PA, hPA⟩ : ∃ PA, Lx.plA (at_, Rn.plc f n at_) = PA := ⟨_, rfl⟩
          obtain ⟨PD, hPD⟩ : ∃ PD, Lx.plA (d, Rn.plc f n d) = PD := ⟨_, rfl⟩
          rw [hPA, hPD] at cU
          rw [hPD] at HR1
          have hPAi := Lx.plA_size (at_, Rn.plc f n at_)
          have hPAl := Lx.plA_length (at_, Rn.plc f n at_)
          have hPDl := Lx.plA_length (d, Rn.plc f n d)
          have hPAo := Lx.plA_one (at_, Rn.plc f n at_)
          rw [hPA] at hPAi hPAl hPAo
          rw [hPD] at hPDl
          have HPA := hide' hPA
          have HPD := hide' hPD
          have HI1 := hide' hPAi
          have HI2 := hide' hPAl
          have HI3 := hide' hPDl
          have HI4 := hide' hPAo
          have cUh := hide' cU
          clear cR hb3 hPl3 hPl3a hb4 cU hPA hPD hPAi hPAl hPDl hPAo
          go_wp2_with (refine wpList_load_mid rfl 31 (.tmp 6) rfl w1.heap.size 0 rfl PD.toList _ HR1.out Tryz.underlying31 rfl HI3.out ?_)
          refine cUh.out.mono ?_
          rintro e w4 ⟨rfl, hb6⟩
          have hs6 := hb6.size
          have hsA : (w3.alloc (.cells #[.int .i64 (x.k : Nat), .string x.tx, .int .i64 (x.nm : Nat), .int .i64 0, .int .i64 0, .int .i64 0, .int .i64 0] 86)).heap.size = w3.heap.size + 1 := by simp
          have hP4 : w4.heap[w1.heap.size]? = some (.cells (Lx.plA (d, Rn.plc f n d)) 31 (0, 0)) := (hb6.block _ (by omega)).trans ((((Below.refl _ _).alloc (Nat.le_refl _) _).block _ (by omega)).trans HW.out.1)
          have hW4 : w4.heap[w3.heap.size]? = some (.cells (Lx.wdC x.k x.tx x.nm (0, 0, 0, 0)) 86 (0, 0)) := (hb6.block _ (by omega)).trans (Lx.heap_new w3 _)
          have hq4 : ∀ q, q < wr.heap.size → w4.heap[q]? = wr.heap[q]? := fun q hq => (hb6.block _ (by omega)).trans ((((Below.refl _ _).alloc (Nat.le_refl _) _).block _ (by omega)).trans (HW.out.2.2.block q hq))
          have hb7 := hb5.trans (hb6.mono hb5.size)
          have hne : w1.heap.size ≠ w3.heap.size := by omega
          have hMem := Lx.word_mem (q := (at_, Rn.plc f n at_)) hP4 hW4 hne
          rw [HPA.out] at hMem
          obtain ⟨WA, hWA⟩ : ∃ WA, Lx.wdC x.k x.tx x.nm (at_, Rn.plc f n at_) = WA := ⟨_, rfl⟩
          have hWAl := Lx.wdC_length x.k x.tx x.nm (at_, Rn.plc f n at_)
          rw [hWA] at hMem hWAl
          have HWA := hide' hWA
          have HWL := hide' hWAl
          have HM := hide' hMem
          have HX := hide' (And.intro hb7 (And.intro hs6 hq4))
          clear hP4 hW4 hq4 hb7 hb6 cUh HR1 hs6 hMem hWA hWAl HW HI3
          go_wp2_with (first | refine wpList_store_mid rfl 31 (.tmp 6) (.tmp 53) rfl w1.heap.size 0 PA rfl rfl HM.out.1 HI1.out HI4.out ?_ | refine wpList_load_mid rfl 31 (.tmp 6) rfl w1.heap.size 0 rfl PA.toList _ HM.out.2.1 Tryz.underlying31 rfl HI2.out ?_ | refine wpList_store_mid rfl 31 (.tmp 55) (.tmp 54) rfl w3.heap.size 3 PA rfl rfl HM.out.2.2.1 HI1.out HI4.out ?_ | refine wpList_load_mid rfl 86 (.tmp 8) rfl w3.heap.size 0 rfl [.int .i64 (x.k : Nat), .string x.tx, .int .i64 (x.nm : Nat), .int .i64 (at_ : Nat), .int .i64 ((Rn.plc f n at_).1 : Nat), .int .i64 ((Rn.plc f n at_).2.1 : Nat), .int .i64 ((Rn.plc f n at_).2.2 : Nat)] _ (Lx.range_cast HM.out.2.2.2.1 HWA.out rfl) Tryz.underlying86 rfl Lx.wdInfo ?_ | (at_builtin; refine wpList_append_own _ rfl _ _ 44 rfl (w1.heap.size + 1) 86 i0 (.agg Lx.wd0) 7 64 Tryz.underlying44 hi hz0 hz1 hz2 rfl (by decide) _ acc.length (Lx.wdls f n acc) rfl ((Lx.row_mem iRow.out HX.out.2.2 hs3 PA.toList PA.toList).alloc _) ⟨((w4.setCells w1.heap.size 0 PA.toList).setCells w3.heap.size 3 PA.toList).heap.size, 0, none⟩ 1 1 [.int .i64 (x.k : Nat), .string x.tx, .int .i64 (x.nm : Nat), .int .i64 (at_ : Nat), .int .i64 ((Rn.plc f n at_).1 : Nat), .int .i64 ((Rn.plc f n at_).2.1 : Nat), .int .i64 ((Rn.plc f n at_).2.2 : Nat)] rfl rfl ?c1 ?c2 ?c3 ?c4 ?c5 ?_))
          case c1 => exact Lx.word_news _ #[.int .i64 (x.k : Nat), .string x.tx, .int .i64 (x.nm : Nat), .int .i64 (at_ : Nat), .int .i64 ((Rn.plc f n at_).1 : Nat), .int .i64 ((Rn.plc f n at_).2.1 : Nat), .int .i64 ((Rn.plc f n at_).2.2 : Nat)] _
          case c2 => exact Lx.wdl_cell f n (at_, x)
          case c3 => unfold maxLen; omega
          case c4 => omega
          case c5 => have := HX.out.2.1; rw [Lx.size_alloc, Lx.size_setCells, Lx.size_setCells]; omega
          intro v' w5 hown hgrow _
          have hs8 : ((w4.setCells w1.heap.size 0 PA.toList).setCells w3.heap.size 3 PA.toList).heap.size = w4.heap.size := by rw [Lx.size_setCells, Lx.size_setCells]
          have hs46 := HX.out.2.1
          have hb8 : Below w.heap.size w ((w4.setCells w1.heap.size 0 PA.toList).setCells w3.heap.size 3 PA.toList) := Lx.below_cells (by omega) _ _ _ (Lx.below_cells (by omega) _ _ _ HX.out.1)
          have hb9 := hb8.alloc hb8.size (.cells #[.int .i64 (x.k : Nat), .string x.tx, .int .i64 (x.nm : Nat), .int .i64 (at_ : Nat), .int .i64 ((Rn.plc f n at_).1 : Nat), .int .i64 ((Rn.plc f n at_).2.1 : Nat), .int .i64 ((Rn.plc f n at_).2.2 : Nat)] 86)
          have hown4 : ∀ q, u4.ownBlock = some q → w1.heap.size + 1 ≤ q := fun q hq => (iRow.out.lt q hq).1
          have hb10 : Below w.heap.size w w5 := Lx.grown_below hb9 hgrow (fun q hq => by have := hown4 q hq; omega) (Nat.le_refl _)
          have hP10 : w5.heap[w1.heap.size]? = some (.cells (Lx.plA (at_, Rn.plc f n at_)) 31 (0, 0)) := by
            refine (hgrow.block _ (by rw [Lx.size_alloc]; omega) (fun e => by have := hown4 _ e.symm; omega)).trans ?_
            refine (((Below.refl _ _).alloc (Nat.le_refl _) _).block _ (by omega)).trans ?_
            rw [HPA.out]
            exact HM.out.2.2.2.2
          have hrow : w5.ownsRow (w1.heap.size + 1) 86 7 v' (acc ++ [(at_, x)]).length (Lx.wdls f n (acc ++ [(at_, x)])) := by
            rw [Lx.wdls_append, Lx.wdls_one, List.length_append]
            exact hown
          have cL2 := cL2h.out w5 hb10
          obtain ⟨E1, E2, E3, E4, E5, E6, E7, _⟩ := HE.out
          have hNX := HNX.out
          have W := hide' (Lx.Wst.mk (fuel := fu) (at_ := Lx.nxt f n at_) (d := at_) (Pb := w1.heap.size) (w := w) hrow hP10 E3 E4 (by omega) E7 (by have := HI.out.fu; omega) (by rw [List.append_assoc]; exact E1) E2 (by rw [List.length_append]; simp; omega) hb10 iLo)
          have E56 : at_ < Lx.nxt f n at_ := by omega
          have e2 := arr_rest f n (at_ + x.wd)
          have g4 : (at_ : Int) + x.wd ≤ n := by omega
          have g5 : (0 : Int) ≤ (at_ : Int) + x.wd := by omega
          have g6 : ((at_ : Int) + x.wd).toNat = at_ + x.wd := by omega
          generalize Lx.lead (Rn.off f (at_ + x.wd)) (n - (at_ + x.wd)) 1 = ll at *
          have hll : at_ + x.wd + ll ≤ n := by omega
          have HNX2 := hide' hNX
          have H56 := hide' E56
          clear hown hgrow hs8 hb8 hb9 hown4 hb10 hP10 hrow E1 E2 E3 E4 E5 E6 E7 HE HNX hNX E56 HM HX HWA HWL HPA HPD HI1 HI2 HI4 iRow iPl iRd HI cL2h
          go_wp2_with fail
          refine cL2.mono ?_
          rintro e w6 ⟨rfl, hb11⟩
          have W2 := hide' (W.out.below hb11)
          clear cL2 hb11 W
          go_wp2_with fail
          go_roundw
          case rel => exact ⟨Lx.nxt f n at_, at_, fu, acc ++ [(at_, x)], by rw [HNX2.out]; go_num, W2.out⟩
          case measure => have := H56.out; have := HNX2.out; simp [RowKit.intOf]; omega
      · have g1 : ¬ (at_ : Int) < n := by omega
        have hE := I.e1
        have hE2 := I.e2
        rw [Lx.wds_end _ _ _ _ hlt] at hE hE2
        rw [List.append_nil] at hE
        have hfl : Lx.flt f n = none := by rw [HF.out.1, ← hE2]; rfl
        have HR := hide' (And.intro hfl (And.intro HF.out.2 (And.intro hE (And.intro (Lx.row_base I.row (Nat.le_trans I.lo (Nat.le_succ _))) I.bl))))
        clear I hE hE2 hfl
        go_wp2_with fail
        refine bodyPost_ret (v := .tuple #[u4, .nilIface]) (by simp [results, Tryz.results15, go_sem]) rfl ?_
        obtain ⟨r1, r2, r3, r4, r5⟩ := HR.out
        exact .ok u4 wr r1 r2 (by rw [← r3]; exact r4) r5
end Go.Proofs.YtcnagbkdckipnaaGreatDoor
