import Derived.Test.YtcfjflchhocnaaaDoorScTellB
import Derived.Test.YtcfjflchhocnaaaDoorScMono
/-
  THE WALK over the scanner's Next, where a new walk begins and a tag is whole.
-/
namespace Go.Proofs.YtcfjflchhocnaaaDoor
open Go.RowKit Go.Lib
namespace Sc
def place0 : Array Value := #[.int .i64 0, .int .i64 0, .int .i64 0, .int .i64 0]
theorem placeInfo : (Tryd.prog.info? 32).map (·.size) = some 4 := by kernel_rfl
theorem place0One : place0.all (·.oneCell') = true := by simp [place0, Value.oneCell']
theorem results_three {P : Program} {fn : Func} {a b c : Nat} {t u : TypeId} (hr : fn.results = #[.cell a t, .cell b u, .tmp c]) (tmps : Array Value) (p q : Addr) (hp : tmps[a]?.getD undef = .pointer (some p)) (hq : tmps[b]?.getD undef = .pointer (some q)) (v v2 v3 : Value) (w : World) (h : (loadVar t p).run P w = .ok v w) (h2 : (loadVar u q).run P w = .ok v2 w) (h3 : tmps[c]?.getD undef = v3) : (results fn tmps).run P w = .ok (.tuple #[v, v2, v3]) w := by
  unfold results
  rw [hr]
  simp [asAddr, hp, hq, h, h2, h3]
section
variable {w : World} {D B n : Nat} {f : Nat → Nat} {S : St} {R : Raw}
theorem ok_new (nm : List UInt8) : Ok nm 0 {} := by
  refine ⟨rfl, ?_, ?_, ?_, ?_, ?_, ?_, ?_, ?_, ?_, ?_, ?_, ?_, ?_⟩
  all_goals simp
theorem rdy_new {d i : Nat} {m : List UInt8} (hT : Tb B w) (hB : B ≤ w.heap.size) (hf : ∀ j, f j < 256) (hbig : n ≤ 1099511627776) (hpl : S.pl.1 ≤ 1099511627776 ∧ S.pl.2.1 ≤ 1099511627776 ∧ S.pl.2.2.1 ≤ 1099511627776 ∧ S.pl.2.2.2 ≤ 1099511627776) : Rdy w B n f (newSt S i m) (newRaw R d) d :=
  ⟨hT, hB, rfl, rfl, rfl, Nat.le_refl _, Nat.zero_le _, fun m' h1 h2 => by have : (newSt S i m).fed = 0 := rfl; omega, hf, hbig, hpl⟩
theorem ans_fin {W3 : World} {T : Nat} {v : Value} {S3 : St} {F : Nat → Nat} {N : Nat} {tk : Array Value} {at_ : Value} {m : Nat} {ys : List Value} (hS3 : SC W3 D B F N S3 (noRaw v)) (h6 : W3.heap[T]? = some (.cells tok0 43 (0, 0))) (h7 : W3.heap[T + 1]? = some (.cells place0 32 (0, 0))) (hn6 : some T ∉ foot D (noRaw v)) (hn7 : some (T + 1) ∉ foot D (noRaw v)) (hsz : tk.size = 12)
    (hat : W3.ownsRow B 61 2 at_ m ys) (ha6 : at_.ownBlock ≠ some T) (ha7 : at_.ownBlock ≠ some (T + 1)) (hTo : To D R w (noRaw v) W3) (hw : w.heap.size ≤ T) (htb : Tb B W3) (hB : B ≤ T) :
    W3.there T 0 tk.size ∧ (W3.setCells T 0 tk.toList).there (T + 1) 0 place0.size ∧
    (loadVar 43 ⟨T, 0, none⟩).run Tryd.prog ((W3.setCells T 0 tk.toList).setCells (T + 1) 0 place0.toList) = .ok (.agg tk) ((W3.setCells T 0 tk.toList).setCells (T + 1) 0 place0.toList) ∧
    (loadVar 32 ⟨T + 1, 0, none⟩).run Tryd.prog ((W3.setCells T 0 tk.toList).setCells (T + 1) 0 place0.toList) = .ok (.agg place0) ((W3.setCells T 0 tk.toList).setCells (T + 1) 0 place0.toList) ∧
    SC ((W3.setCells T 0 tk.toList).setCells (T + 1) 0 place0.toList) D B F N S3 (noRaw v) ∧ To D R w (noRaw v) ((W3.setCells T 0 tk.toList).setCells (T + 1) 0 place0.toList) ∧ ((W3.setCells T 0 tk.toList).setCells (T + 1) 0 place0.toList).ownsRow B 61 2 at_ m ys ∧ Tb B ((W3.setCells T 0 tk.toList).setCells (T + 1) 0 place0.toList) := by
  have t6 : W3.there T 0 tk.size := there_of h6 0 tk.size (by rw [hsz]; exact Nat.le_refl _)
  have h7' : (W3.setCells T 0 tk.toList).heap[T + 1]? = some (.cells place0 32 (0, 0)) := (heap_setCells_far (by omega) _ _ _).trans h7
  have t7 : (W3.setCells T 0 tk.toList).there (T + 1) 0 place0.size := there_of h7' 0 4 (Nat.le_refl _)
  have hfar : ∀ q, q ≠ T → q ≠ T + 1 → ((W3.setCells T 0 tk.toList).setCells (T + 1) 0 place0.toList).heap[q]? = W3.heap[q]? := fun q a b => (heap_setCells_far b _ _ _).trans (heap_setCells_far a _ _ _)
  have hbl : Below B W3 ((W3.setCells T 0 tk.toList).setCells (T + 1) 0 place0.toList) := below_cells (by omega) _ _ _ (below_cells hB _ _ _ (Below.refl _ _))
  refine ⟨t6, t7, ?_, ?_, hS3.keep fun q hq => hfar q (fun e => hn6 (by rw [← e]; exact hq)) (fun e => hn7 (by rw [← e]; exact hq)), (hTo.cells hw).cells (by omega), own_keep hat fun q e => hfar q (fun e2 => ha6 (by rw [← e2]; exact e)) (fun e2 => ha7 (by rw [← e2]; exact e)), htb.to hbl⟩
  · have r1 : (W3.setCells T 0 tk.toList).rangeAt T 0 tk.toList := World.rangeAt_setCells_same _ _ _ _ (by rw [Array.length_toList]; exact t6)
    have r2 := World.rangeAt_setCells_apart r1 (T + 1) 0 place0.toList (.inl (by omega))
    exact run_loadVar_mid _ T 0 43 tk.toList _ r2 Tryd.underlying43 rfl (by rw [tokInfo, Array.length_toList, hsz])
  · exact run_loadVar_mid _ (T + 1) 0 32 place0.toList _ (World.rangeAt_setCells_same _ _ _ _ t7) Tryd.underlying32 rfl placeInfo
set_option maxRecDepth 10000 in
set_option maxHeartbeats 4000000 in
theorem next_tag (h : SCe w D B f n S R) (hT : Tb B w) (hB : B ≤ w.heap.size) (hf : ∀ j, f j < 256) (hbig : n ≤ 1099511627776) (hpl : S.pl.1 ≤ 1099511627776 ∧ S.pl.2.1 ≤ 1099511627776 ∧ S.pl.2.2.1 ≤ 1099511627776 ∧ S.pl.2.2.2 ≤ 1099511627776)
    (iv : Int) (l : List UInt8) (hl : l.length ≤ 70368744177664) (hne : R.fp = none ∨ S.inn ≠ inOf iv ∨ S.nm ≠ nmOf iv l) (k : Wk) (hk : Steps (inOf iv) (nmOf iv l) f n {} k) (hk0 : k.how = 0) (hkt : k.text = []) (hkg : k.tg ≤ k.ps) :
    Calls Tryd.prog 17 #[.pointer (some ⟨D, 0, none⟩), .int .i64 iv, .string ⟨l.toArray⟩] w fun e w' => ∃ av, e = .returned (.tuple #[.agg (tokA k.kind k.tag av [] (pla S.pl f n k.tg) (pla S.pl f n k.ps)), .agg place0, .int .i64 0]) ∧
      ∃ v, SC w' D B (Rn.off f k.ps) (n - k.ps) (noSt (pla S.pl f n k.ps) S.ended) (noRaw v) ∧ To D R w (noRaw v) w' ∧ w'.ownsRow B 61 2 av k.attrs.length (acells k.attrs) ∧ Tb B w' := by
  have hin : inOf iv ≤ 2 := by
    unfold inOf
    repeat' split
    all_goals omega
  have hnm : (nmOf iv l).length ≤ 70368744177664 := by
    unfold nmOf
    split
    · exact hl
    · simp
  obtain ⟨W0, hW0⟩ : ∃ W0, W0 = (w.alloc (.cells tok0 43)).alloc (.cells place0 32) := ⟨_, rfl⟩
  have hb0 : Below w.heap.size w W0 := by rw [hW0]; exact ((Below.refl _ _).alloc (Nat.le_refl _) _).alloc (by simp) _
  have hs0 : W0.heap.size = w.heap.size + 2 := by rw [hW0]; simp
  have cC := choose_new (h.below hb0) hf iv l hl hne
  have CC := hide' cC
  have HB0 := hide' hb0
  have H := hide' h
  have HT6 : Hid (W0.heap[w.heap.size]? = some (.cells tok0 43 (0, 0))) := by
    show W0.heap[w.heap.size]? = _
    rw [hW0]
    exact (((Below.refl _ _).alloc (Nat.le_refl _) _).block w.heap.size (by simp)).trans (heap_alloc_new w _)
  have HT7 : Hid (W0.heap[w.heap.size + 1]? = some (.cells place0 32 (0, 0))) := by
    show W0.heap[w.heap.size + 1]? = _
    rw [hW0]
    have := heap_alloc_new (w.alloc (.cells tok0 43)) (.cells place0 32)
    rw [show (w.alloc (.cells tok0 43)).heap.size = w.heap.size + 1 by simp] at this
    exact this
  have HTB : Hid (Tb B W0) := hT.below hb0 hB
  have HS0 := hide' hs0
  have HK := hide' hk
  have HK0 := hide' hk0
  have HKT := hide' hkt
  have HKG := hide' hkg
  have HIN := hide' hin
  have HNM := hide' hnm
  have HF := hide' hf
  have HBG := hide' hbig
  have HPL := hide' hpl
  have HBW := hide' hB
  clear h hT hB hf hbig hpl hl hne hk hk0 hkt hkg hin hnm cC hb0 hs0
  go_enter Tryd.func17, Tryd.ntmps17
  go_wp2_with fail
  change Calls _ _ _ ((w.alloc (.cells tok0 43)).alloc (.cells place0 32)) _
  rw [← hW0]
  clear hW0
  refine CC.out.mono ?_
  rintro e W1 ⟨rfl, d, hd, hS1, hTo1⟩
  have hB1 := (H.out.below HB0.out).to_below hTo1
  have hrdy := rdy_new (R := R) (d := d) (i := inOf iv) (m := nmOf iv l) (S := S) (n := n) (HTB.out.to hB1) (Nat.le_trans HBW.out (Nat.le_trans HB0.out.size hTo1.mv.size)) HF.out HBG.out HPL.out
  have cG := goOn_any hS1 hrdy (ok_new _) (by show (0 : Nat) ≤ 19; omega) HIN.out HNM.out crs twices adds
  have c9 := hS1.c9
  have CG := hide' cG
  have HS1 := hide' hS1
  have HTO1 := hide' hTo1
  clear hS1 hTo1 hB1 hrdy cG CC
  dsimp only [newSt] at c9
  go_wp2_with fail
  refine CG.out.mono ?_
  rintro e W2 ⟨rfl, x, k2, R2, hWe, hSt, hEn⟩
  obtain rfl : k2 = k := Steps.one_end hSt HK.out hEn (.inl (by rw [HK0.out]; decide))
  have d9 := hWe.sc.c9
  have d18 := hWe.sc.c18
  obtain ⟨pt, ct, et⟩ := own_shape hWe.sc.text
  obtain ⟨pb, cb, eb⟩ := own_shape hWe.sc.attrs
  rw [et] at d18
  dsimp only [Stt] at d9 d18
  rw [HK0.out] at d9
  rw [HKT.out] at d18
  have cT := tellTag_any hWe.sc HF.out HKG.out hWe.psn HBG.out HPL.out
  dsimp only [Stt, newSt] at cT
  rw [eb] at cT
  dsimp only [Stt] at cT
  obtain ⟨tk, htk⟩ : ∃ tk, tk = tokA k2.kind k2.tag (.slice pb k2.attrs.length cb) [] (pla S.pl f n k2.tg) (pla S.pl f n k2.ps) := ⟨_, rfl⟩
  have hts : tk.size = 12 := by rw [htk]; rfl
  have hto : tk.all (·.oneCell') = true := by rw [htk]; exact tokOne _ _ _ _ _ _ _ _
  rw [← htk] at cT
  have CT := hide' cT
  have HTK := hide' htk
  have HTS := hide' hts
  have HTI : Hid ((Tryd.prog.info? 43).map (·.size) = some tk.size) := by show _ = some tk.size; rw [hts]; exact tokInfo
  have HTO := hide' hto
  have HWE := hide' hWe
  have HEB : Hid (R2.attrs = .slice pb k2.attrs.length cb) := eb
  clear hWe hSt hEn cT et eb CG c9 htk hts hto
  simp only [List.length_nil] at d18
  go_wp2_with fail
  refine CT.out.mono ?_
  rintro e W3 ⟨rfl, v, hS3, hTo3, hat, hsep⟩
  have hT03 := (HTO1.out.trans HWE.out.go).trans hTo3
  have hs0 := HS0.out
  have hfr : ∀ q, some q ∈ foot D R → q < w.heap.size := fun q hq => (H.out.lt q hq).2
  have hnot : ∀ q, w.heap.size ≤ q → q < W0.heap.size → some q ∉ foot D (noRaw v) := fun q q1 q2 hq => by
    rcases hT03.own q hq with e | e
    · have := hfr q e; omega
    · omega
  have h6 := (hT03.mv.block w.heap.size (by omega) fun hq => by have := hfr _ hq; omega).trans HT6.out
  have h7 := (hT03.mv.block (w.heap.size + 1) (by omega) fun hq => by have := hfr _ hq; omega).trans HT7.out
  have hab : ∀ q, (Value.slice pb k2.attrs.length cb).ownBlock = some q → q < w.heap.size ∨ W0.heap.size ≤ q := fun q e => by
    rcases (HTO1.out.trans HWE.out.go).own q (by rw [← e, ← HEB.out]; simp [foot]) with e1 | e1
    · exact .inl (hfr q e1)
    · exact .inr e1
  have H3 := hide' hS3
  have H6 := hide' h6
  have H7 := hide' h7
  have HN6 : Hid (some w.heap.size ∉ foot D (noRaw v)) := hnot _ (Nat.le_refl _) (by omega)
  have HN7 : Hid (some (w.heap.size + 1) ∉ foot D (noRaw v)) := hnot _ (by omega) (by omega)
  have HAT := hide' hat
  have HA6 : Hid ((Value.slice pb k2.attrs.length cb).ownBlock ≠ some w.heap.size) := fun e => by rcases hab _ e with k | k <;> omega
  have HA7 : Hid ((Value.slice pb k2.attrs.length cb).ownBlock ≠ some (w.heap.size + 1)) := fun e => by rcases hab _ e with k | k <;> omega
  have HTO3 : Hid (To D R w (noRaw v) W3) := (To.of_below HB0.out).trans hT03
  have HTB3 : Hid (Tb B W3) := HTB.out.to ((H.out.below HB0.out).to_below hT03)
  clear hS3 hTo3 hat hsep hT03 hs0 hfr hnot h6 h7 hab CT d9 d18
  go_wp2_with (first | refine wpList_store_mid rfl 43 (.tmp 6) (.tmp 78) rfl w.heap.size 0 tk rfl rfl (ans_fin H3.out H6.out H7.out HN6.out HN7.out HTS.out HAT.out HA6.out HA7.out HTO3.out (Nat.le_refl _) HTB3.out HBW.out).1 HTI.out HTO.out ?_ | refine wpList_store_mid rfl 32 (.tmp 7) (.tmp 79) rfl (w.heap.size + 1) 0 place0 rfl rfl (ans_fin H3.out H6.out H7.out HN6.out HN7.out HTS.out HAT.out HA6.out HA7.out HTO3.out (Nat.le_refl _) HTB3.out HBW.out).2.1 placeInfo place0One ?_)
  have fin := ans_fin H3.out H6.out H7.out HN6.out HN7.out HTS.out HAT.out HA6.out HA7.out HTO3.out (Nat.le_refl _) HTB3.out HBW.out
  refine bodyPost_ret (v := .tuple #[.agg tk, .agg place0, .int .i64 0]) (results_three Tryd.results17 _ ⟨w.heap.size, 0, none⟩ ⟨w.heap.size + 1, 0, none⟩ rfl rfl _ _ _ _ fin.2.2.1 fin.2.2.2.1 rfl) rfl ?_
  exact ⟨.slice pb k2.attrs.length cb, by rw [HTK.out], v, fin.2.2.2.2.1, fin.2.2.2.2.2.1, fin.2.2.2.2.2.2.1, fin.2.2.2.2.2.2.2⟩
end
end Sc
end Go.Proofs.YtcfjflchhocnaaaDoor
/-
  THE WALK over the scanner's Next, where a new walk begins and a text stands ahead of a whole tag.
-/
namespace Go.Proofs.YtcfjflchhocnaaaDoor
open Go.RowKit Go.Lib
namespace Sc
section
variable {w : World} {D B n : Nat} {f : Nat → Nat} {S : St} {R : Raw}
theorem ans_finE {W3 : World} {T : Nat} {R3 : Raw} {S3 : St} {F : Nat → Nat} {N : Nat} {tk : Array Value} (hS3 : SCe W3 D B F N S3 R3) (h6 : W3.heap[T]? = some (.cells tok0 43 (0, 0))) (h7 : W3.heap[T + 1]? = some (.cells place0 32 (0, 0))) (hn6 : some T ∉ foot D R3) (hn7 : some (T + 1) ∉ foot D R3) (hsz : tk.size = 12)
    (hTo : To D R w R3 W3) (hw : w.heap.size ≤ T) (htb : Tb B W3) (hB : B ≤ T) :
    W3.there T 0 tk.size ∧ (W3.setCells T 0 tk.toList).there (T + 1) 0 place0.size ∧
    (loadVar 43 ⟨T, 0, none⟩).run Tryd.prog ((W3.setCells T 0 tk.toList).setCells (T + 1) 0 place0.toList) = .ok (.agg tk) ((W3.setCells T 0 tk.toList).setCells (T + 1) 0 place0.toList) ∧
    (loadVar 32 ⟨T + 1, 0, none⟩).run Tryd.prog ((W3.setCells T 0 tk.toList).setCells (T + 1) 0 place0.toList) = .ok (.agg place0) ((W3.setCells T 0 tk.toList).setCells (T + 1) 0 place0.toList) ∧
    SCe ((W3.setCells T 0 tk.toList).setCells (T + 1) 0 place0.toList) D B F N S3 R3 ∧ To D R w R3 ((W3.setCells T 0 tk.toList).setCells (T + 1) 0 place0.toList) ∧ Tb B ((W3.setCells T 0 tk.toList).setCells (T + 1) 0 place0.toList) := by
  have t6 : W3.there T 0 tk.size := there_of h6 0 tk.size (by rw [hsz]; exact Nat.le_refl _)
  have h7' : (W3.setCells T 0 tk.toList).heap[T + 1]? = some (.cells place0 32 (0, 0)) := (heap_setCells_far (by omega) _ _ _).trans h7
  have t7 : (W3.setCells T 0 tk.toList).there (T + 1) 0 place0.size := there_of h7' 0 4 (Nat.le_refl _)
  have hfar : ∀ q, q ≠ T → q ≠ T + 1 → ((W3.setCells T 0 tk.toList).setCells (T + 1) 0 place0.toList).heap[q]? = W3.heap[q]? := fun q a b => (heap_setCells_far b _ _ _).trans (heap_setCells_far a _ _ _)
  have hbl : Below B W3 ((W3.setCells T 0 tk.toList).setCells (T + 1) 0 place0.toList) := below_cells (by omega) _ _ _ (below_cells hB _ _ _ (Below.refl _ _))
  refine ⟨t6, t7, ?_, ?_, hS3.keep fun q hq => hfar q (fun e => hn6 (by rw [← e]; exact hq)) (fun e => hn7 (by rw [← e]; exact hq)), (hTo.cells hw).cells (by omega), htb.to hbl⟩
  · have r1 : (W3.setCells T 0 tk.toList).rangeAt T 0 tk.toList := World.rangeAt_setCells_same _ _ _ _ (by rw [Array.length_toList]; exact t6)
    have r2 := World.rangeAt_setCells_apart r1 (T + 1) 0 place0.toList (.inl (by omega))
    exact run_loadVar_mid _ T 0 43 tk.toList _ r2 Tryd.underlying43 rfl (by rw [tokInfo, Array.length_toList, hsz])
  · exact run_loadVar_mid _ (T + 1) 0 32 place0.toList _ (World.rangeAt_setCells_same _ _ _ _ t7) Tryd.underlying32 rfl placeInfo
set_option maxRecDepth 10000 in
set_option maxHeartbeats 4000000 in
theorem next_text (h : SCe w D B f n S R) (hT : Tb B w) (hB : B ≤ w.heap.size) (hf : ∀ j, f j < 256) (hbig : n ≤ 1099511627776) (hpl : S.pl.1 ≤ 1099511627776 ∧ S.pl.2.1 ≤ 1099511627776 ∧ S.pl.2.2.1 ≤ 1099511627776 ∧ S.pl.2.2.2 ≤ 1099511627776)
    (iv : Int) (l : List UInt8) (hl : l.length ≤ 70368744177664) (hne : R.fp = none ∨ S.inn ≠ inOf iv ∨ S.nm ≠ nmOf iv l) (k : Wk) (hk : Steps (inOf iv) (nmOf iv l) f n {} k) (hk0 : k.how = 0) (hkt : 0 < k.text.length) (hkf : k.tf ≤ n) (hkg : k.tg ≤ k.ps) :
    Calls Tryd.prog 17 #[.pointer (some ⟨D, 0, none⟩), .int .i64 iv, .string ⟨l.toArray⟩] w fun e w' => e = .returned (.tuple #[.agg (tokA 0 [] (.slice none 0 0) k.text (pla S.pl f n k.tf) (pla S.pl f n k.tg)), .agg place0, .int .i64 0]) ∧
      ∃ R' x, SCe w' D B (Rn.off f k.tg) (n - k.tg) { Stt (newSt S (inOf iv) (nmOf iv l)) x k with pl := pla S.pl f n k.tg, k := { k with ps := k.ps - k.tg, tg := 0, text := [] } } R' ∧ To D R w R' w' ∧ Tb B w' := by
  have hin : inOf iv ≤ 2 := by
    unfold inOf
    repeat' split
    all_goals omega
  have hnm : (nmOf iv l).length ≤ 70368744177664 := by
    unfold nmOf
    split
    · exact hl
    · simp
  obtain ⟨W0, hW0⟩ : ∃ W0, W0 = (w.alloc (.cells tok0 43)).alloc (.cells place0 32) := ⟨_, rfl⟩
  have hb0 : Below w.heap.size w W0 := by rw [hW0]; exact ((Below.refl _ _).alloc (Nat.le_refl _) _).alloc (by simp) _
  have hs0 : W0.heap.size = w.heap.size + 2 := by rw [hW0]; simp
  have cC := choose_new (h.below hb0) hf iv l hl hne
  have CC := hide' cC
  have HB0 := hide' hb0
  have H := hide' h
  have HT6 : Hid (W0.heap[w.heap.size]? = some (.cells tok0 43 (0, 0))) := by
    show W0.heap[w.heap.size]? = _
    rw [hW0]
    exact (((Below.refl _ _).alloc (Nat.le_refl _) _).block w.heap.size (by simp)).trans (heap_alloc_new w _)
  have HT7 : Hid (W0.heap[w.heap.size + 1]? = some (.cells place0 32 (0, 0))) := by
    show W0.heap[w.heap.size + 1]? = _
    rw [hW0]
    have := heap_alloc_new (w.alloc (.cells tok0 43)) (.cells place0 32)
    rw [show (w.alloc (.cells tok0 43)).heap.size = w.heap.size + 1 by simp] at this
    exact this
  have HTB : Hid (Tb B W0) := hT.below hb0 hB
  have HS0 := hide' hs0
  have HK := hide' hk
  have HK0 := hide' hk0
  have HKT := hide' hkt
  have HKF := hide' hkf
  have HKG := hide' hkg
  have HIN := hide' hin
  have HNM := hide' hnm
  have HF := hide' hf
  have HBG := hide' hbig
  have HPL := hide' hpl
  have HBW := hide' hB
  clear h hT hB hf hbig hpl hl hne hk hk0 hkt hkf hkg hin hnm cC hb0 hs0
  go_enter Tryd.func17, Tryd.ntmps17
  go_wp2_with fail
  change Calls _ _ _ ((w.alloc (.cells tok0 43)).alloc (.cells place0 32)) _
  rw [← hW0]
  clear hW0
  refine CC.out.mono ?_
  rintro e W1 ⟨rfl, d, hd, hS1, hTo1⟩
  have hB1 := (H.out.below HB0.out).to_below hTo1
  have hrdy := rdy_new (R := R) (d := d) (i := inOf iv) (m := nmOf iv l) (S := S) (n := n) (HTB.out.to hB1) (Nat.le_trans HBW.out (Nat.le_trans HB0.out.size hTo1.mv.size)) HF.out HBG.out HPL.out
  have cG := goOn_any hS1 hrdy (ok_new _) (by show (0 : Nat) ≤ 19; omega) HIN.out HNM.out crs twices adds
  have c9 := hS1.c9
  have CG := hide' cG
  have HS1 := hide' hS1
  have HTO1 := hide' hTo1
  clear hS1 hTo1 hB1 hrdy cG CC
  dsimp only [newSt] at c9
  go_wp2_with fail
  refine CG.out.mono ?_
  rintro e W2 ⟨rfl, x, k2, R2, hWe, hSt, hEn⟩
  obtain rfl : k2 = k := Steps.one_end hSt HK.out hEn (.inl (by rw [HK0.out]; decide))
  have d9 := hWe.sc.c9
  have d18 := hWe.sc.c18
  obtain ⟨pt, ct, et⟩ := own_shape hWe.sc.text
  rw [et] at d18
  dsimp only [Stt] at d9 d18
  rw [HK0.out] at d9
  have i18 : (0 : Int) < k2.text.length := by have := HKT.out; omega
  have cT := tellText_any hWe.sc HF.out HKF.out HKG.out hWe.psn HBG.out HPL.out
  dsimp only [Stt, newSt] at cT
  obtain ⟨tk, htk⟩ : ∃ tk, tk = tokA 0 [] (.slice none 0 0) k2.text (pla S.pl f n k2.tf) (pla S.pl f n k2.tg) := ⟨_, rfl⟩
  have hts : tk.size = 12 := by rw [htk]; rfl
  have hto : tk.all (·.oneCell') = true := by rw [htk]; exact tokOne _ _ _ _ _ _ _ _
  rw [← htk] at cT
  have CT := hide' cT
  have HTK := hide' htk
  have HTS := hide' hts
  have HTI : Hid ((Tryd.prog.info? 43).map (·.size) = some tk.size) := by show _ = some tk.size; rw [hts]; exact tokInfo
  have HTO := hide' hto
  have HWE := hide' hWe
  clear hWe hSt hEn cT et CG c9 htk hts hto
  go_wp2_with fail
  refine CT.out.mono ?_
  rintro e W3 ⟨rfl, R3, hS3, hTo3, hfp3⟩
  have hT03 := (HTO1.out.trans HWE.out.go).trans hTo3
  have hs0 := HS0.out
  have hfr : ∀ q, some q ∈ foot D R → q < w.heap.size := fun q hq => (H.out.lt q hq).2
  have hnot : ∀ q, w.heap.size ≤ q → q < W0.heap.size → some q ∉ foot D R3 := fun q q1 q2 hq => by
    rcases hT03.own q hq with e | e
    · have := hfr q e; omega
    · omega
  have h6 := (hT03.mv.block w.heap.size (by omega) fun hq => by have := hfr _ hq; omega).trans HT6.out
  have h7 := (hT03.mv.block (w.heap.size + 1) (by omega) fun hq => by have := hfr _ hq; omega).trans HT7.out
  have H3 := hide' hS3
  have H6 := hide' h6
  have H7 := hide' h7
  have HN6 : Hid (some w.heap.size ∉ foot D R3) := hnot _ (Nat.le_refl _) (by omega)
  have HN7 : Hid (some (w.heap.size + 1) ∉ foot D R3) := hnot _ (by omega) (by omega)
  have HTO3 : Hid (To D R w R3 W3) := (To.of_below HB0.out).trans hT03
  have HTB3 : Hid (Tb B W3) := HTB.out.to ((H.out.below HB0.out).to_below hT03)
  clear hS3 hTo3 hfp3 hT03 hs0 hfr hnot h6 h7 CT d9 d18 i18
  go_wp2_with (first | refine wpList_store_mid rfl 43 (.tmp 6) (.tmp 75) rfl w.heap.size 0 tk rfl rfl (ans_finE H3.out H6.out H7.out HN6.out HN7.out HTS.out HTO3.out (Nat.le_refl _) HTB3.out HBW.out).1 HTI.out HTO.out ?_ | refine wpList_store_mid rfl 32 (.tmp 7) (.tmp 76) rfl (w.heap.size + 1) 0 place0 rfl rfl (ans_finE H3.out H6.out H7.out HN6.out HN7.out HTS.out HTO3.out (Nat.le_refl _) HTB3.out HBW.out).2.1 placeInfo place0One ?_)
  have fin := ans_finE H3.out H6.out H7.out HN6.out HN7.out HTS.out HTO3.out (Nat.le_refl _) HTB3.out HBW.out
  refine bodyPost_ret (v := .tuple #[.agg tk, .agg place0, .int .i64 0]) (results_three Tryd.results17 _ ⟨w.heap.size, 0, none⟩ ⟨w.heap.size + 1, 0, none⟩ rfl rfl _ _ _ _ fin.2.2.1 fin.2.2.2.1 rfl) rfl ?_
  exact ⟨by rw [HTK.out], R3, x, fin.2.2.2.2.1, fin.2.2.2.2.2.1, fin.2.2.2.2.2.2⟩
end
end Sc
end Go.Proofs.YtcfjflchhocnaaaDoor
