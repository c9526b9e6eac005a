import Derived.Test.YtcnagbkdckipnaaGreatDoorLxWord
import Derived.Deep.MidRow
import Derived.Lib.SmallJoins
/-
  Words as cells: a struct of seven cells stored and answered.
-/
namespace Go.Proofs.YtcnagbkdckipnaaGreatDoor
open Go.RowKit Go.Lib
namespace Lx
/-- the cells of a word, its place with it -/
def wdC (k : Nat) (tx : ByteArray) (nm : Nat) (p : Nat × Nat × Nat × Nat) : Array Value :=
  #[.int .i64 (k : Nat), .string tx, .int .i64 (nm : Nat), .int .i64 (p.1 : Nat), .int .i64 (p.2.1 : Nat), .int .i64 (p.2.2.1 : Nat), .int .i64 (p.2.2.2 : Nat)]
def wdA (x : Wd) : Array Value := wdC x.k x.tx x.nm (0, 0, 0, 0)
def wd0 : Array Value := #[.int .i64 0, .string ⟨#[]⟩, .int .i64 0, .int .i64 0, .int .i64 0, .int .i64 0, .int .i64 0]
/-- what the four answer -/
def Wd.ans (x : Wd) : Value := .tuple #[.agg (wdA x), .int .i64 (x.wd : Nat), .bool x.ok]
theorem wdInfo : (Tryz.prog.info? 86).map (·.size) = some 7 := by kernel_rfl
theorem wdOne (k : Nat) (tx : ByteArray) (nm : Nat) (p : Nat × Nat × Nat × Nat) : (wdC k tx nm p).all (·.oneCell') = true := by simp [wdC, Value.oneCell']
theorem heap_new (w : World) (o : Obj) : (w.alloc o).heap[w.heap.size]? = some o := by
  show (w.heap.push o)[w.heap.size]? = _
  simp
theorem heap_far {b q : Nat} (hq : q ≠ b) : ∀ (vs : List Value) (o : Nat) (w : World), (w.setCells b o vs).heap[q]? = w.heap[q]?
  | [], _, _ => rfl
  | v :: r, o, w => (heap_far hq r (o + 1) (w.setCell ⟨b, o, none⟩ v)).trans (RowKit.Below.heap_setCell _ _ _ _ hq)
theorem size_setCells {b : Nat} : ∀ (vs : List Value) (o : Nat) (w : World), (w.setCells b o vs).heap.size = w.heap.size
  | [], _, _ => rfl
  | v :: r, o, w => (size_setCells r (o + 1) (w.setCell ⟨b, o, none⟩ v)).trans (by simp [World.setCell])
theorem below_cells {B b : Nat} {a : World} (hb : B ≤ b) : ∀ (vs : List Value) (o : Nat) (w : World), Below B a w → Below B a (w.setCells b o vs)
  | [], _, _, h => h
  | v :: r, o, _, h => below_cells hb r (o + 1) _ (h.setCell (p := ⟨b, o, none⟩) hb v)
/-- cells written one behind the other -/
def setAll (cur : Array Value) : Nat → List Value → Array Value
  | _, [] => cur
  | o, v :: r => setAll (cur.setIfInBounds o v) (o + 1) r
theorem heap_setCells {b : Nat} {t : TypeId} : ∀ (vs : List Value) (o : Nat) (cur : Array Value) (w : World), w.heap[b]? = some (.cells cur t (0, 0)) → (w.setCells b o vs).heap[b]? = some (.cells (setAll cur o vs) t (0, 0))
  | [], _, _, _, h => h
  | v :: r, o, cur, w, h => heap_setCells r (o + 1) (cur.setIfInBounds o v) (w.setCell ⟨b, o, none⟩ v) (Go.Joins.block_setCell (i := o) h v)
theorem there_of {w : World} {b : Nat} {cur : Array Value} {t : TypeId} (h : w.heap[b]? = some (.cells cur t (0, 0))) (o n : Nat) (hn : o + n ≤ cur.size) : w.there b o n := fun j hj =>
  ⟨by rw [Lib.cell_of_heap h, Array.getElem?_eq_getElem (by omega)]; rfl, Lib.frozen_of_heap h _⟩
theorem range_of {w : World} {b : Nat} {cur : Array Value} {t : TypeId} (h : w.heap[b]? = some (.cells cur t (0, 0))) : w.rangeAt b 0 cur.toList := by
  intro j v hv
  rw [Lib.cell_of_heap h, Nat.zero_add, ← Array.getElem?_toList]
  exact hv
/-- a function that answers a struct and two plain values -/
theorem results_word {P : Program} {fn : Func} {a b c : Nat} {t : TypeId} (hr : fn.results = #[.cell a t, .tmp b, .tmp c]) (tmps : Array Value) (p : Addr) (hp : tmps[a]?.getD undef = .pointer (some p)) (v v2 v3 : Value) (w : World) (h : (loadVar t p).run P w = .ok v w) (h2 : tmps[b]?.getD undef = v2) (h3 : tmps[c]?.getD undef = v3) : (results fn tmps).run P w = .ok (.tuple #[v, v2, v3]) w := by
  unfold results
  rw [hr]
  simp [asAddr, hp, h, h2, h3]
theorem results_cell {P : Program} {fn : Func} {a : Nat} {t : TypeId} (hr : fn.results = #[.cell a t]) (tmps : Array Value) (p : Addr) (hp : tmps[a]?.getD undef = .pointer (some p)) (v : Value) (w : World) (h : (loadVar t p).run P w = .ok v w) : (results fn tmps).run P w = .ok v w := by
  unfold results
  rw [hr]
  simp [asAddr, hp, h]
/-- the result's cell, still empty -/
def Emp (w w1 : World) : Prop := w1.heap[w.heap.size]? = some (.cells wd0 86 (0, 0)) ∧ Below w.heap.size w w1
theorem Emp.new (w : World) : Emp w (w.alloc (.cells wd0 86)) := ⟨heap_new w _, (Below.refl _ _).alloc (Nat.le_refl _) _⟩
theorem Emp.below {w w1 w2 : World} (h : Emp w w1) (hb : Below w1.heap.size w1 w2) : Emp w w2 := by
  have hl : w.heap.size < w1.heap.size := (Array.getElem?_eq_some_iff.1 h.1).1
  exact ⟨(hb.block _ hl).trans h.1, h.2.trans (hb.mono h.2.size)⟩
theorem Emp.lt {w w1 : World} (h : Emp w w1) : w.heap.size < w1.heap.size := (Array.getElem?_eq_some_iff.1 h.1).1
theorem Emp.there {w w1 : World} (h : Emp w w1) : w1.there w.heap.size 0 7 := there_of h.1 0 7 (by decide)
/-- the result is stored: what is answered -/
theorem Emp.load {w w1 : World} (h : Emp w w1) (k : Nat) (tx : ByteArray) (nm : Nat) (p : Nat × Nat × Nat × Nat) :
    (loadVar 86 ⟨w.heap.size, 0, none⟩).run Tryz.prog (w1.setCells w.heap.size 0 (wdC k tx nm p).toList) = .ok (.agg (wdC k tx nm p)) (w1.setCells w.heap.size 0 (wdC k tx nm p).toList) :=
  run_loadVar_mid _ w.heap.size 0 86 (wdC k tx nm p).toList _ (World.rangeAt_setCells_same _ _ _ _ h.there) Tryz.underlying86 rfl wdInfo
theorem Emp.fin {w w1 : World} (h : Emp w w1) (vs : List Value) : Below w.heap.size w (w1.setCells w.heap.size 0 vs) := below_cells (Nat.le_refl _) _ _ _ h.2
end Lx
end Go.Proofs.YtcnagbkdckipnaaGreatDoor
/-
  WALKS over lexis.readNumber, readText, readSign, readWord: the word with which a text begins.
-/
namespace Go.Proofs.YtcnagbkdckipnaaGreatDoor
open Go.RowKit Go.Lib

theorem arr_one (f : Nat → Nat) : Rn.arr f 1 = ⟨#[(f 0).toUInt8]⟩ := rfl

/-- what the library's Cut answers at one byte -/
def Lx.cutV (g : Nat → Nat) (m c : Nat) : Value :=
  if Lx.idx g m c < m then .tuple #[.string (Rn.arr g (Lx.idx g m c)), .string (Rn.arr (Rn.off g (Lx.idx g m c + 1)) (m - (Lx.idx g m c + 1))), .bool true] else .tuple #[.string (Rn.arr g m), .string ⟨#[]⟩, .bool false]
set_option maxHeartbeats 1000000 in
theorem cutlite_one (g : Nat → Nat) (m c : Nat) (hg : ∀ j, g j < 256) (hc : c < 256) (hm : m ≤ 4611686018427387904) (w : World) :
    Calls Tryz.prog 119 #[.string (Rn.arr g m), .string ⟨#[c.toUInt8]⟩] w fun e w' => e = .returned (Lx.cutV g m c) ∧ ∃ k, w' = w.drewN k := by
  have cI := fun w1 => Tryz.stringslite_Index_one (Rn.arr g m) c.toUInt8 w1
  rw [Lx.index_eq g m hg c hc] at cI
  have hsz := Rn.arr_size g m
  unfold Lx.cutV
  have hle := (Lx.idx_spec g m c).1
  by_cases h : Lx.idx g m c < m
  · rw [if_pos h] at cI ⊢
    have e1 := arr_front g m (Lx.idx g m c) (by omega)
    have e2 := arr_rest g m (Lx.idx g m c + 1)
    generalize Lx.idx g m c = i at *
    have c0 : (0 : Int) ≤ (i : Int) := by omega
    have c1 : (i : Int) ≤ m := by omega
    have c2 : (i : Int) + 1 ≤ m := by omega
    have c3 : (0 : Int) ≤ (i : Int) + 1 := by omega
    have c4 : IntKind.i64.wrap ((i : Int) + 1) = (i : Int) + 1 := by rw [IntKind.wrap_i64]; omega
    clear hm
    go_enter Tryz.func119, Tryz.ntmps119
    go_wp2_with fail
    refine (cI _).mono ?_
    rintro e w1 ⟨rfl, rfl⟩
    go_wp2
    go_quiet (fail)
    go_wp2
    go_ret3
    exact ⟨rfl, nq, rfl⟩
  · rw [if_neg h] at cI ⊢
    go_enter Tryz.func119, Tryz.ntmps119
    go_wp2_with fail
    refine (cI _).mono ?_
    rintro e w1 ⟨rfl, rfl⟩
    go_wp2
    go_ret3
    exact ⟨rfl, 0, rfl⟩

theorem cut_one (g : Nat → Nat) (m c : Nat) (hg : ∀ j, g j < 256) (hc : c < 256) (hm : m ≤ 4611686018427387904) (w : World) :
    Calls Tryz.prog 94 #[.string (Rn.arr g m), .string ⟨#[c.toUInt8]⟩] w fun e w' => e = .returned (Lx.cutV g m c) ∧ Below w.heap.size w w' := by
  have cI := fun w1 => cutlite_one g m c hg hc hm w1
  unfold Lx.cutV at cI ⊢
  by_cases h : Lx.idx g m c < m
  · rw [if_pos h] at cI ⊢
    go_enter Tryz.func94, Tryz.ntmps94
    go_wp2_with fail
    refine (cI _).mono ?_
    rintro e w1 ⟨rfl, k, rfl⟩
    go_wp2
    go_ret3
    exact ⟨rfl, below_drewN (Below.refl _ _) k⟩
  · rw [if_neg h] at cI ⊢
    go_enter Tryz.func94, Tryz.ntmps94
    go_wp2_with fail
    refine (cI _).mono ?_
    rintro e w1 ⟨rfl, k, rfl⟩
    go_wp2
    go_ret3
    exact ⟨rfl, below_drewN (Below.refl _ _) k⟩

set_option maxHeartbeats 1000000 in
theorem readText_any (f : Nat → Nat) (n : Nat) (w : World) (hf : ∀ j, f j < 256) (h0 : 0 < n) (hn : n ≤ 4611686018427387904) :
    Calls Tryz.prog 71 #[.string (Rn.arr f n)] w fun e w' => e = .returned (Lx.rdTxt f n).ans ∧ Below w.heap.size w w' := by
  have hsz := Rn.arr_size f n
  have e1 := arr_front f n 1 (by omega)
  have e2 := arr_rest f n 1
  have cC := cut_one (Rn.off f 1) (n - 1) (f 0) (fun _ => hf _) (hf 0) (by omega) (w.alloc (.cells Lx.wd0 86))
  rw [arr_one] at e1
  have i1 : (1 : Int) ≤ n := by omega
  unfold Lx.rdTxt
  unfold Lx.cutV at cC
  have hle := (Lx.idx_spec (Rn.off f 1) (n - 1) (f 0)).1
  by_cases h : Lx.idx (Rn.off f 1) (n - 1) (f 0) < n - 1
  · rw [if_pos h] at cC ⊢
    have hsz2 := Rn.arr_size (Rn.off f 1) (Lx.idx (Rn.off f 1) (n - 1) (f 0))
    generalize Lx.idx (Rn.off f 1) (n - 1) (f 0) = i at *
    have cC' := hide' cC
    clear cC
    go_enter Tryz.func71, Tryz.ntmps71
    go_wp2_with fail
    refine cC'.out.mono ?_
    rintro e w1 ⟨rfl, hb⟩
    have HE := hide' ((Lx.Emp.new w).below hb)
    clear hb cC'
    go_wp2_with (refine wpList_store_mid rfl 86 (.tmp 2) (.tmp 23) rfl w.heap.size 0 (Lx.wdC 1 (Rn.arr (Rn.off f 1) i) 0 (0, 0, 0, 0)) rfl rfl HE.out.there Lx.wdInfo (Lx.wdOne _ _ _ _) ?_)
    exact bodyPost_ret (v := (Lx.Wd.mk 1 (Rn.arr (Rn.off f 1) i) 0 (i + 2) true).ans) (Lx.results_word Tryz.results71 _ ⟨w.heap.size, 0, none⟩ rfl _ _ _ _ (HE.out.load _ _ _ _) (by simp) rfl) rfl ⟨rfl, HE.out.fin _⟩
  · rw [if_neg h] at cC ⊢
    have cC' := hide' cC
    clear cC
    go_enter Tryz.func71, Tryz.ntmps71
    go_wp2_with fail
    refine cC'.out.mono ?_
    rintro e w1 ⟨rfl, hb⟩
    have HE := hide' ((Lx.Emp.new w).below hb)
    clear hb cC'
    go_wp2_with (refine wpList_store_mid rfl 86 (.tmp 2) (.tmp 21) rfl w.heap.size 0 (Lx.wdC 0 ⟨#[]⟩ 0 (0, 0, 0, 0)) rfl rfl HE.out.there Lx.wdInfo (Lx.wdOne _ _ _ _) ?_)
    exact bodyPost_ret (v := (Lx.Wd.mk 0 ⟨#[]⟩ 0 0 false).ans) (Lx.results_word Tryz.results71 _ ⟨w.heap.size, 0, none⟩ rfl _ _ _ _ (HE.out.load _ _ _ _) rfl rfl) rfl ⟨rfl, HE.out.fin _⟩
end Go.Proofs.YtcnagbkdckipnaaGreatDoor
/-
  WALKS over lexis.readNumber and readSign.
-/
namespace Go.Proofs.YtcnagbkdckipnaaGreatDoor
open Go.RowKit Go.Lib

set_option maxRecDepth 100000 in
set_option maxHeartbeats 2000000 in
theorem readNumber_any (f : Nat → Nat) (n : Nat) (w : World) (hf : ∀ j, f j < 256) (hn : n ≤ 4611686018427387904) (hS : Spans w) :
    Calls Tryz.prog 70 #[.string (Rn.arr f n)] w fun e w' => e = .returned (Lx.rdNum f n).ans ∧ Below w.heap.size w w' := by
  have hsz := Rn.arr_size f n
  have cL : ∀ w1, Below w.heap.size w w1 → _ := fun w1 hb => leading_any f n 4 w1 hf (by omega) (hS.below hb (Nat.le_refl _))
  have hwn : Lx.lead f n 4 ≤ n := Lx.lead_le hf
  have hdg : ∀ j, j < Lx.lead f n 4 → 48 ≤ f j ∧ f j ≤ 57 := fun j hj => Lx.lead_digit hf hj
  have cM : ∀ w1, Below w.heap.size w w1 → _ := fun w1 hb => leading_any (Rn.off f (Lx.lead f n 4)) (n - Lx.lead f n 4) 2 w1 (fun _ => hf _) (by omega) (hS.below hb (Nat.le_refl _))
  obtain ⟨ANS, hANS⟩ : ∃ ANS, Lx.rdNum f n = ANS := ⟨_, rfl⟩
  rw [hANS]
  unfold Lx.rdNum at hANS
  generalize Lx.lead f n 4 = m at *
  have HA := hide' hANS
  clear hANS
  have e1 := arr_front f n m hwn
  have e2 := arr_rest f n m
  have i1 : (m : Int) ≤ n := by omega
  have i2 : (0 : Int) ≤ m := by omega
  have hszm := Rn.arr_size f m
  clear hS
  have HN := Lx.Emp.new w
  go_enter Tryz.func70, Tryz.ntmps70
  go_wp2_with fail
  refine (cL _ HN.2).mono ?_
  rintro e w1 ⟨rfl, hb⟩
  have HE := HN.below hb
  have hl1 := HE.lt
  have HEh := hide' HE
  clear hb HN cL HE
  go_wp2_with fail
  go_loopw [3, 5] (fun v3 v wr => ∃ (pos a : Nat), v3 = .int .i64 m ∧ v = .int .i64 a ∧ a ≤ 1000000 ∧ pos ≤ m ∧ wr.heap[w1.heap.size]? = some (.stringIter (Rn.arr f m) pos) ∧ Lx.numF f (m - pos) pos a = Lx.num f m ∧ Lx.Emp w wr) (fun _ _ wr => m - wr.iterPos w1.heap.size)
  case atStart => exact ⟨0, 0, rfl, rfl, by omega, by omega, World.iter_heap w1 _ 0, rfl, HEh.out.below ((Below.refl _ _).alloc (Nat.le_refl _) _)⟩
  case round =>
    obtain ⟨pos, a, rfl, rfl, ha, hpm, hit, hpre, HE⟩ := hrel
    by_cases hlt : pos < m
    · have hnx : ∀ ty, (Instr.next (.pointer (some ⟨w1.heap.size, 0, none⟩)) true ty).run Tryz.prog wr = _ := fun ty => Lib.run_next_any_at wr w1.heap.size (Rn.arr f m) pos ty hit (by rw [hszm]; exact hlt)
      obtain ⟨d1, d2⟩ := hdg pos hlt
      rw [Rn.arr_decode f m pos hf hlt, Lx.dec_low (f := Rn.off f pos) (by simp [Rn.off]; omega)] at hnx
      have hit2 := Lib.iterAt_heap wr w1.heap.size (Rn.arr f m) pos (pos + 1) hit
      have HE2 : Lx.Emp w (wr.iterAt w1.heap.size (Rn.arr f m) (pos + 1)) := ⟨(Lib.below_iterAt (Below.refl w1.heap.size wr) (Nat.le_refl _) (Rn.arr f m) (pos + 1)).block _ hl1 |>.trans HE.1, Lib.below_iterAt HE.2 (by omega) _ _⟩
      obtain ⟨d, hd⟩ : ∃ d, f pos = d + 48 := ⟨f pos - 48, by omega⟩
      have hd9 : d ≤ 9 := by omega
      have hst : Lx.numF f (m - pos) pos a = if 1000000 < a * 10 + d then a * 10 + d else Lx.numF f (m - (pos + 1)) (pos + 1) (a * 10 + d) := by
        obtain ⟨q, hq⟩ : ∃ q, m - pos = q + 1 := ⟨m - pos - 1, by omega⟩
        rw [hq, show m - (pos + 1) = q by omega]
        show (if _ then _ else _) = _
        rw [show f pos - 48 = d by omega]
      rw [hst] at hpre
      simp only [Rn.off, Nat.add_zero, hd] at hnx
      have HI := hide' hit2
      have HE2h := hide' HE2
      clear hst HE HE2 hit2 d1 d2 hd hdg cM
      by_cases hbig : 1000000 < a * 10 + d
      · rw [if_pos hbig] at hpre
        have HP := hide' hpre
        have g1 : (1000000 : Int) < (a : Int) * 10 + d := by omega
        clear hpre hit
        go_wp2_with (refine wpList_store_mid rfl 86 (.tmp 2) (.tmp 25) rfl w.heap.size 0 (Lx.wdC 0 ⟨#[]⟩ 0 (0, 0, 0, 0)) rfl rfl HE2h.out.there Lx.wdInfo (Lx.wdOne _ _ _ _) ?_)
        exact bodyPost_ret (v := (Lx.Wd.mk 0 ⟨#[]⟩ 0 0 false).ans) (Lx.results_word Tryz.results70 _ ⟨w.heap.size, 0, none⟩ rfl _ _ _ _ (HE2h.out.load _ _ _ _) rfl rfl) rfl ⟨by rw [← HA.out, if_pos (by rw [← HP.out]; exact hbig)], HE2h.out.fin _⟩
      · rw [if_neg hbig] at hpre
        have g1 : ¬ (1000000 : Int) < (a : Int) * 10 + d := by omega
        have HP := hide' hpre
        have HJ := hide' hit
        clear hpre hit
        go_wp2_with fail
        go_roundw
        case rel => exact ⟨pos + 1, a * 10 + d, rfl, by go_num, by omega, by omega, HI.out, HP.out, HE2h.out⟩
        case measure => simp only [World.iterPos, HI.out, HJ.out]; omega
    · obtain rfl : pos = m := by omega
      have hnx : ∀ ty, (Instr.next (.pointer (some ⟨w1.heap.size, 0, none⟩)) true ty).run Tryz.prog wr = _ := fun ty => Lib.run_next_end_at wr w1.heap.size (Rn.arr f pos) pos ty hit (by rw [hszm]; exact hlt)
      rw [Nat.sub_self] at hpre
      have hpre' : a = Lx.num f pos := hpre
      have HP := hide' hpre'
      have cM' := cM wr HE.2
      have HEw := hide' HE
      clear hpre hpre' hit HE cM hdg
      by_cases hns : 0 < Lx.lead (Rn.off f pos) (n - pos) 2
      · have HA2 := hide' (show ANS = Lx.Wd.mk 0 ⟨#[]⟩ 0 pos false by rw [← HA.out, if_neg (by rw [← HP.out]; omega), if_pos hns])
        clear HA
        generalize Lx.lead (Rn.off f pos) (n - pos) 2 = z at *
        have g1 : (0 : Int) < z := by omega
        go_wp2_with fail
        refine cM'.mono ?_
        rintro e w2 ⟨rfl, hb2⟩
        have HE3 := hide' (HEw.out.below hb2)
        clear hb2 HEw cM'
        go_wp2_with (refine wpList_store_mid rfl 86 (.tmp 2) (.tmp 31) rfl w.heap.size 0 (Lx.wdC 0 ⟨#[]⟩ 0 (0, 0, 0, 0)) rfl rfl HE3.out.there Lx.wdInfo (Lx.wdOne _ _ _ _) ?_)
        exact bodyPost_ret (v := (Lx.Wd.mk 0 ⟨#[]⟩ 0 pos false).ans) (Lx.results_word Tryz.results70 _ ⟨w.heap.size, 0, none⟩ rfl _ _ _ _ (HE3.out.load _ _ _ _) rfl rfl) rfl ⟨by rw [HA2.out], HE3.out.fin _⟩
      · have HA2 := hide' (show ANS = Lx.Wd.mk 2 ⟨#[]⟩ a pos true by rw [← HA.out, if_neg (by rw [← HP.out]; omega), if_neg hns, ← HP.out])
        clear HA
        generalize Lx.lead (Rn.off f pos) (n - pos) 2 = z at *
        have g1 : ¬ (0 : Int) < z := by omega
        go_wp2_with fail
        refine cM'.mono ?_
        rintro e w2 ⟨rfl, hb2⟩
        have HE3 := hide' (HEw.out.below hb2)
        clear hb2 HEw cM'
        go_wp2_with (refine wpList_store_mid rfl 86 (.tmp 2) (.tmp 34) rfl w.heap.size 0 (Lx.wdC 2 ⟨#[]⟩ a (0, 0, 0, 0)) rfl rfl HE3.out.there Lx.wdInfo (Lx.wdOne _ _ _ _) ?_)
        exact bodyPost_ret (v := (Lx.Wd.mk 2 ⟨#[]⟩ a pos true).ans) (Lx.results_word Tryz.results70 _ ⟨w.heap.size, 0, none⟩ rfl _ _ _ _ (HE3.out.load _ _ _ _) rfl rfl) rfl ⟨by rw [HA2.out], HE3.out.fin _⟩
end Go.Proofs.YtcnagbkdckipnaaGreatDoor
/-
  WALKS over lexis.readSign and readWord.
-/
namespace Go.Proofs.YtcnagbkdckipnaaGreatDoor
open Go.RowKit Go.Lib

/-- the program's signs lie in memory -/
def Signs (w : World) : Prop := ∀ i s, Lx.sgs[i]? = some s → w.cell? ⟨4, i, none⟩ = some (.string (Lx.bt s))
theorem Signs.below {w w' : World} {B : Nat} (h : Signs w) (hb : Below B w w') (hB : w.heap.size ≤ B) : Signs w' := fun i s hs =>
  (hb.cell (p := ⟨4, i, none⟩) (Nat.lt_of_lt_of_le (block_lt_of_cell (h i s hs)) hB)).trans (h i s hs)
namespace Lx
def sgV : List Value := sgs.map fun s => .string (bt s)
theorem sgV_range {w : World} (h : Signs w) : w.rangeAt 4 0 sgV := by
  intro j v hv
  unfold sgV at hv
  rw [List.getElem?_map] at hv
  obtain ⟨s, hs, rfl⟩ := Option.map_eq_some_iff.1 hv
  rw [Nat.zero_add]
  exact h j s hs
theorem sgInfo : (Tryz.prog.info? 191).map (·.size) = some 15 := by kernel_rfl
theorem pre_eq (f : Nat → Nat) (hf : ∀ j, f j < 256) : ∀ (l : List Nat), (∀ c ∈ l, c < 256) → ∀ n (g : Nat → Nat), (∀ j, g j < 256) → Lib.hasPrefix (Rn.arr g n).data.toList (bt l).data.toList = pre g n l
  | [], _, n, g, hg => by simp [bt, pre, Lib.hasPrefix]
  | c :: l, hc, n, g, hg => by
    have hl := pre_eq f hf l (fun c h => hc c (by simp [h])) (n - 1) (Rn.off g 1) (fun _ => hg _)
    have hc0 := hc c (by simp)
    have hg0 := hg 0
    unfold pre
    cases n with
    | zero => simp [bt, Lib.hasPrefix, Rn.arr]
    | succ m =>
      have e : (Rn.arr g (m + 1)).data.toList = (g 0).toUInt8 :: (Rn.arr (Rn.off g 1) m).data.toList := by
        simp only [Rn.arr, Array.toList_ofFn, List.ofFn_succ, Rn.off]
        simp [Nat.add_comm]
      have e2 : (bt (c :: l)).data.toList = c.toUInt8 :: (bt l).data.toList := by simp [bt]
      rw [Nat.add_sub_cancel] at hl
      rw [e, e2, Nat.add_sub_cancel, ← hl]
      unfold Lib.hasPrefix
      have : (c.toUInt8 == (g 0).toUInt8) = decide (0 < m + 1 ∧ g 0 = c) := by
        rw [Bool.eq_iff_iff]
        simp only [beq_iff_eq, decide_eq_true_eq]
        constructor
        · intro h
          have := congrArg UInt8.toNat h
          simp at this
          omega
        · rintro ⟨_, rfl⟩; rfl
      simp [List.isPrefixOf, this]
theorem sg_index (W : World) : ∀ (k : Nat) (s : List Nat), sgs[k]? = some s → (Instr.index 191 (.agg sgV.toArray) (.int .i64 (k : Nat))).run Tryz.prog W = .ok (.string (bt s)) W
  | 0, _, h => by cases h; kernel_rfl
  | 1, _, h => by cases h; kernel_rfl
  | 2, _, h => by cases h; kernel_rfl
  | 3, _, h => by cases h; kernel_rfl
  | 4, _, h => by cases h; kernel_rfl
  | 5, _, h => by cases h; kernel_rfl
  | 6, _, h => by cases h; kernel_rfl
  | 7, _, h => by cases h; kernel_rfl
  | 8, _, h => by cases h; kernel_rfl
  | 9, _, h => by cases h; kernel_rfl
  | 10, _, h => by cases h; kernel_rfl
  | 11, _, h => by cases h; kernel_rfl
  | 12, _, h => by cases h; kernel_rfl
  | 13, _, h => by cases h; kernel_rfl
  | 14, _, h => by cases h; kernel_rfl
  | k + 15, _, h => by simp [sgs] at h
theorem sgs_low : ∀ s ∈ sgs, ∀ c ∈ s, c < 256 := by decide
theorem sgs_size : ∀ s ∈ sgs, (bt s).size = s.length ∧ 0 < s.length ∧ s.length ≤ 2 := by decide
end Lx

set_option maxRecDepth 100000 in
set_option maxHeartbeats 2000000 in
theorem readSign_any (f : Nat → Nat) (n : Nat) (w : World) (hf : ∀ j, f j < 256) (hG : Signs w) :
    Calls Tryz.prog 72 #[.string (Rn.arr f n)] w fun e w' => e = .returned (Lx.rdSgn f n Lx.sgs).ans ∧ Below w.heap.size w w' := by
  obtain ⟨ANS, hANS⟩ : ∃ ANS, Lx.rdSgn f n Lx.sgs = ANS := ⟨_, rfl⟩
  rw [hANS]
  have HA := hide' hANS
  have HN := Lx.Emp.new w
  have HG := hide' (Lx.sgV_range (hG.below HN.2 (Nat.le_refl _)))
  have cP : ∀ s w1, _ := fun s w1 => Tryz.strings_HasPrefix (Rn.arr f n) (Lx.bt s) w1
  have hP : ∀ s ∈ Lx.sgs, Lib.hasPrefix (Rn.arr f n).data.toList (Lx.bt s).data.toList = Lx.pre f n s := fun s hs => Lx.pre_eq f hf s (Lx.sgs_low s hs) n f hf
  obtain ⟨SG, hSG⟩ : ∃ SG, Lx.sgV.toArray = SG := ⟨_, rfl⟩
  have hix : ∀ (k : Nat) (s : List Nat), Lx.sgs[k]? = some s → ∀ W, (Instr.index 191 (.agg SG) (.int .i64 (k : Nat))).run Tryz.prog W = .ok (.string (Lx.bt s)) W := fun k s h W => by rw [← hSG]; exact Lx.sg_index W k s h
  have HSG := hide' hSG
  have HNh := hide' HN
  clear hG hSG hANS HN
  go_enter Tryz.func72, Tryz.ntmps72
  go_wp2_with (refine wpList_load_mid rfl 191 (.global 4) rfl 4 0 rfl Lx.sgV _ HG.out Tryz.underlying191 rfl Lx.sgInfo ?_; rw [HSG.out])
  go_loopw [8] (fun v wr => ∃ k : Nat, v = .int .i64 k ∧ k ≤ 15 ∧ Lx.rdSgn f n (Lx.sgs.drop k) = ANS ∧ Lx.Emp w wr) (fun v _ => 15 - (RowKit.intOf v).toNat)
  case atStart => exact ⟨0, rfl, by omega, HA.out, HNh.out⟩
  case round =>
    obtain ⟨k, rfl, hk, hpre, HE⟩ := hrel
    have HEh := hide' HE
    clear HE HNh HG
    by_cases hlt : k < 15
    · have hkl : k < Lx.sgs.length := hlt
      have hm := List.getElem_mem hkl
      have hi := hix k _ (List.getElem?_eq_getElem hkl)
      have hp := hP _ hm
      have hz := Lx.sgs_size _ hm
      have c := cP Lx.sgs[k] wr
      rw [hp] at c
      rw [List.drop_eq_getElem_cons hkl] at hpre
      generalize Lx.sgs[k] = s at *
      have g1 : (k : Int) < 15 := by omega
      have hz1 := hz.1
      have HZ := hide' hz
      clear hix hP cP hkl hm hp hz
      cases hpr : Lx.pre f n s
      · rw [hpr] at c
        have hpre2 : Lx.rdSgn f n (Lx.sgs.drop (k + 1)) = ANS := by
          rw [← hpre]
          show _ = (if _ then _ else _)
          rw [if_neg (by rw [hpr]; simp)]
        have HP := hide' hpre2
        clear hpre hpre2 hpr
        go_wp2_with fail
        refine c.mono ?_
        rintro e w1 ⟨rfl, rfl⟩
        go_wp2_with fail
        go_roundw
        case rel => exact ⟨k + 1, by go_num, by omega, HP.out, HEh.out⟩
        case measure => simp [RowKit.intOf]; omega
      · rw [hpr] at c
        have hpre2 : Lx.Wd.mk 3 (Lx.bt s) 0 s.length true = ANS := by
          rw [← hpre]
          show _ = (if _ then _ else _)
          rw [if_pos hpr]
        have HP := hide' hpre2
        clear hpre hpre2 hpr
        go_wp2_with fail
        refine c.mono ?_
        rintro e w1 ⟨rfl, rfl⟩
        go_wp2_with (refine wpList_store_mid rfl 86 (.tmp 2) (.tmp 15) rfl w.heap.size 0 (Lx.wdC 3 (Lx.bt s) 0 (0, 0, 0, 0)) rfl rfl HEh.out.there Lx.wdInfo (Lx.wdOne _ _ _ _) ?_)
        exact bodyPost_ret (v := (Lx.Wd.mk 3 (Lx.bt s) 0 s.length true).ans) (Lx.results_word Tryz.results72 _ ⟨w.heap.size, 0, none⟩ rfl _ _ _ _ (HEh.out.load _ _ _ _) (by simp) rfl) rfl ⟨by rw [HP.out], HEh.out.fin _⟩
    · obtain rfl : k = 15 := by omega
      have HP : Hid (Lx.Wd.mk 0 ⟨#[]⟩ 0 0 false = ANS) := hide' (by rw [← hpre]; rfl)
      clear hpre hix hP cP
      go_wp2_with (refine wpList_store_mid rfl 86 (.tmp 2) (.tmp 19) rfl w.heap.size 0 (Lx.wdC 0 ⟨#[]⟩ 0 (0, 0, 0, 0)) rfl rfl HEh.out.there Lx.wdInfo (Lx.wdOne _ _ _ _) ?_)
      exact bodyPost_ret (v := (Lx.Wd.mk 0 ⟨#[]⟩ 0 0 false).ans) (Lx.results_word Tryz.results72 _ ⟨w.heap.size, 0, none⟩ rfl _ _ _ _ (HEh.out.load _ _ _ _) rfl rfl) rfl ⟨by rw [HP.out], HEh.out.fin _⟩
end Go.Proofs.YtcnagbkdckipnaaGreatDoor
/-
  THE WALK over lexis.readWord.
-/
namespace Go.Proofs.YtcnagbkdckipnaaGreatDoor
open Go.RowKit Go.Lib

theorem Lx.arr_zero (f : Nat → Nat) (n : Nat) (hf : ∀ j, f j < 256) (h : 0 < n) : ∃ c : UInt8, (Rn.arr f n)[0]'(by rw [Rn.arr_size]; exact h) = c ∧ c.toNat = f 0 := by
  refine ⟨(f 0).toUInt8, by simp [Rn.arr, ByteArray.getElem_eq_getElem_data], ?_⟩
  have := hf 0
  simp
  omega

set_option maxRecDepth 100000 in
set_option maxHeartbeats 4000000 in
theorem readWord_any (f : Nat → Nat) (n : Nat) (w : World) (hf : ∀ j, f j < 256) (h0 : 0 < n) (hn : n ≤ 4611686018427387904) (hS : Spans w) (hG : Signs w) :
    Calls Tryz.prog 36 #[.string (Rn.arr f n)] w fun e w' => e = .returned (Lx.rd f n).ans ∧ Below w.heap.size w w' := by
  have hsz := Rn.arr_size f n
  have cL : ∀ (c : Int) w1, Below w.heap.size w w1 → _ := fun c w1 hb => leading_any f n c w1 hf (by omega) (hS.below hb (Nat.le_refl _))
  have cN : ∀ w1, Below w.heap.size w w1 → _ := fun w1 hb => readNumber_any f n w1 hf hn (hS.below hb (Nat.le_refl _))
  have cT : ∀ w1, _ := fun w1 => readText_any f n w1 hf h0 hn
  have cG : ∀ w1, Below w.heap.size w w1 → _ := fun w1 hb => readSign_any f n w1 hf (hG.below hb (Nat.le_refl _))
  obtain ⟨ANS, hANS⟩ : ∃ ANS, Lx.rd f n = ANS := ⟨_, rfl⟩
  rw [hANS]
  unfold Lx.rd at hANS
  have hl3 : Lx.lead f n 3 ≤ n := Lx.lead_le hf
  have HN := Lx.Emp.new w
  have HNh := hide' HN
  have hf0 := hf 0
  obtain ⟨c, hz, hc⟩ := Lx.arr_zero f n hf h0
  have HC := hide' hc
  clear hc
  have c2 := cL 2 _ HN.2
  have HcL := hide' cL
  have HcN := hide' cN
  have HcT := hide' cT
  have HcG := hide' cG
  clear hS hG cL cN cT cG HN
  by_cases h2 : 0 < Lx.lead f n 2
  · rw [if_pos h2] at hANS
    have e1 := arr_front f n (Lx.lead f n 3) hl3
    generalize Lx.lead f n 2 = z at *
    have g1 : (0 : Int) < z := by omega
    have i1 : ((Lx.lead f n 3 : Nat) : Int) ≤ n := by omega
    have i2 : (0 : Int) ≤ ((Lx.lead f n 3 : Nat) : Int) := by omega
    have c3 := fun w1 hb => HcL.out 3 w1 hb
    generalize Lx.lead f n 3 = m at *
    have HA := hide' hANS
    clear hANS HcN HcT HcG
    go_enter Tryz.func36, Tryz.ntmps36
    go_wp2_with fail
    refine c2.mono ?_
    rintro e w1 ⟨rfl, hb⟩
    have HE := HNh.out.below hb
    have cc := c3 w1 HE.2
    have HEh := hide' HE
    clear hb HNh HE c3 c2
    go_wp2_with fail
    refine cc.mono ?_
    rintro e w2 ⟨rfl, hb⟩
    have HE2 := hide' (HEh.out.below hb)
    clear hb HEh cc
    go_wp2_with (refine wpList_store_mid rfl 86 (.tmp 2) (.tmp 14) rfl w.heap.size 0 (Lx.wdC 0 (Rn.arr f m) 0 (0, 0, 0, 0)) rfl rfl HE2.out.there Lx.wdInfo (Lx.wdOne _ _ _ _) ?_)
    exact bodyPost_ret (v := (Lx.Wd.mk 0 (Rn.arr f m) 0 m true).ans) (Lx.results_word Tryz.results36 _ ⟨w.heap.size, 0, none⟩ rfl _ _ _ _ (HE2.out.load _ _ _ _) rfl rfl) rfl ⟨by rw [HA.out], HE2.out.fin _⟩
  · rw [if_neg h2] at hANS
    generalize Lx.lead f n 2 = z at *
    have g1 : ¬ (0 : Int) < z := by omega
    have c4 := fun w1 hb => HcL.out 4 w1 hb
    clear HcL
    by_cases h4 : 0 < Lx.lead f n 4
    · rw [if_pos h4] at hANS
      generalize Lx.lead f n 4 = z4 at *
      have g2 : (0 : Int) < z4 := by omega
      rw [hANS] at HcN
      clear hANS HcT HcG
      go_enter Tryz.func36, Tryz.ntmps36
      go_wp2_with fail
      refine c2.mono ?_
      rintro e w1 ⟨rfl, hb⟩
      have HE := HNh.out.below hb
      have cc := c4 w1 HE.2
      have HEh := hide' HE
      clear hb HNh HE c4 c2
      go_wp2_with fail
      refine cc.mono ?_
      rintro e w2 ⟨rfl, hb⟩
      have HE2 := HEh.out.below hb
      have cc2 := HcN.out w2 HE2.2
      have HE2h := hide' HE2
      clear hb HEh cc HE2 HcN
      unfold Lx.Wd.ans Lx.wdA at cc2
      go_wp2_with fail
      refine cc2.mono ?_
      rintro e w3 ⟨rfl, hb⟩
      have HE3 := hide' (HE2h.out.below hb)
      clear hb HE2h cc2
      go_wp2_with (refine wpList_store_mid rfl 86 (.tmp 2) (.tmp 22) rfl w.heap.size 0 (Lx.wdC ANS.k ANS.tx ANS.nm (0, 0, 0, 0)) rfl rfl HE3.out.there Lx.wdInfo (Lx.wdOne _ _ _ _) ?_)
      exact bodyPost_ret (v := ANS.ans) (Lx.results_word Tryz.results36 _ ⟨w.heap.size, 0, none⟩ rfl _ _ _ _ (HE3.out.load _ _ _ _) rfl rfl) rfl ⟨rfl, HE3.out.fin _⟩
    · rw [if_neg h4] at hANS
      generalize Lx.lead f n 4 = z4 at *
      have g2 : ¬ (0 : Int) < z4 := by omega
      clear HcN
      have hc := HC.out
      by_cases hq : f 0 = 34 ∨ f 0 = 39
      · rw [if_pos hq] at hANS
        rw [hANS] at HcT
        clear hANS HcG
        go_enter Tryz.func36, Tryz.ntmps36
        go_wp2_with fail
        refine c2.mono ?_
        rintro e w1 ⟨rfl, hb⟩
        have HE := HNh.out.below hb
        have cc := c4 w1 HE.2
        have HEh := hide' HE
        clear hb HNh HE c4 c2
        go_wp2_with fail
        refine cc.mono ?_
        rintro e w2 ⟨rfl, hb⟩
        have HE2 := HEh.out.below hb
        have cc2 := HcT.out w2
        have HE2h := hide' HE2
        clear hb HEh cc HE2 HcT
        unfold Lx.Wd.ans Lx.wdA at cc2
        rcases hq with hq | hq
        · have q1 : ((c.toNat : Int) == 34) = true := by simp; omega
          clear hq hc
          go_wp2_with fail
          refine cc2.mono ?_
          rintro e w3 ⟨rfl, hb⟩
          have HE3 := hide' (HE2h.out.below hb)
          clear hb HE2h cc2
          go_wp2_with (refine wpList_store_mid rfl 86 (.tmp 2) (.tmp 36) rfl w.heap.size 0 (Lx.wdC ANS.k ANS.tx ANS.nm (0, 0, 0, 0)) rfl rfl HE3.out.there Lx.wdInfo (Lx.wdOne _ _ _ _) ?_)
          exact bodyPost_ret (v := ANS.ans) (Lx.results_word Tryz.results36 _ ⟨w.heap.size, 0, none⟩ rfl _ _ _ _ (HE3.out.load _ _ _ _) rfl rfl) rfl ⟨rfl, HE3.out.fin _⟩
        · have q1 : ((c.toNat : Int) == 34) = false := by simp; omega
          have q2 : ((c.toNat : Int) == 39) = true := by simp; omega
          clear hq hc
          go_wp2_with fail
          refine cc2.mono ?_
          rintro e w3 ⟨rfl, hb⟩
          have HE3 := hide' (HE2h.out.below hb)
          clear hb HE2h cc2
          go_wp2_with (refine wpList_store_mid rfl 86 (.tmp 2) (.tmp 36) rfl w.heap.size 0 (Lx.wdC ANS.k ANS.tx ANS.nm (0, 0, 0, 0)) rfl rfl HE3.out.there Lx.wdInfo (Lx.wdOne _ _ _ _) ?_)
          exact bodyPost_ret (v := ANS.ans) (Lx.results_word Tryz.results36 _ ⟨w.heap.size, 0, none⟩ rfl _ _ _ _ (HE3.out.load _ _ _ _) rfl rfl) rfl ⟨rfl, HE3.out.fin _⟩
      · rw [if_neg hq] at hANS
        rw [hANS] at HcG
        clear hANS HcT
        have q1 : ((c.toNat : Int) == 34) = false := by simp; omega
        have q2 : ((c.toNat : Int) == 39) = false := by simp; omega
        clear hq hc
        go_enter Tryz.func36, Tryz.ntmps36
        go_wp2_with fail
        refine c2.mono ?_
        rintro e w1 ⟨rfl, hb⟩
        have HE := HNh.out.below hb
        have cc := c4 w1 HE.2
        have HEh := hide' HE
        clear hb HNh HE c4 c2
        go_wp2_with fail
        refine cc.mono ?_
        rintro e w2 ⟨rfl, hb⟩
        have HE2 := HEh.out.below hb
        have cc2 := HcG.out w2 HE2.2
        have HE2h := hide' HE2
        clear hb HEh cc HE2 HcG
        unfold Lx.Wd.ans Lx.wdA at cc2
        go_wp2_with fail
        refine cc2.mono ?_
        rintro e w3 ⟨rfl, hb⟩
        have HE3 := hide' (HE2h.out.below hb)
        clear hb HE2h cc2
        go_wp2_with (refine wpList_store_mid rfl 86 (.tmp 2) (.tmp 41) rfl w.heap.size 0 (Lx.wdC ANS.k ANS.tx ANS.nm (0, 0, 0, 0)) rfl rfl HE3.out.there Lx.wdInfo (Lx.wdOne _ _ _ _) ?_)
        exact bodyPost_ret (v := ANS.ans) (Lx.results_word Tryz.results36 _ ⟨w.heap.size, 0, none⟩ rfl _ _ _ _ (HE3.out.load _ _ _ _) rfl rfl) rfl ⟨rfl, HE3.out.fin _⟩
end Go.Proofs.YtcnagbkdckipnaaGreatDoor
