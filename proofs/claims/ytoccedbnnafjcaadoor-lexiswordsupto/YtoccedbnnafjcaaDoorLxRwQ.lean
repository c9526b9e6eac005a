/-
  THE WALK over gimletref10.Words.
-/
import Derived.Test.YtoccedbnnafjcaaDoorLxRwD
import Derived.Test.YtoccedbnnafjcaaDoorLxWords
import Derived.Test.YtoccedbnnafjcaaDoorLxPrM
namespace Go.Proofs.YtoccedbnnafjcaaDoor
open Go.RowKit Go.Lib
namespace Lx
open _root_.Go.Proofs.YtoccedbnnafjcaaDoor.Fd
/-- what the document's Words answers -/
inductive RWE (f : Nat → Nat) (n : Nat) (w : World) : Ending → World → Prop
  | bad (a : Nat) (why : Int) (w' : World) (h : flt f n = some (a, why)) (hb : Below w.heap.size w w') : RWE f n w (.returned (.tuple #[.slice none 0 0, .agg (plA (a, Rn.plc f n a)), .int .i64 why])) w'
  | ok (v : Value) (w' : World) (h : flt f n = none) (hr : w'.ownsRow w.heap.size 43 7 v (words f n).1.length (wdls f n (words f n).1)) (hb : Below w.heap.size w w') : RWE f n w (.returned (.tuple #[v, .agg #[.int .i64 0, .int .i64 0, .int .i64 0, .int .i64 0], .int .i64 0])) w'
theorem results_mid {P : Program} {fn : Func} {a b c : Nat} {t : TypeId} (hr : fn.results = #[.tmp a, .cell b t, .tmp c]) (tmps : Array Value) (p : Addr) (hp : tmps[b]?.getD undef = .pointer (some p)) (v1 v v3 : Value) (w : World) (h : (loadVar t p).run P w = .ok v w) (h1 : tmps[a]?.getD undef = v1) (h3 : tmps[c]?.getD undef = v3) : (results fn tmps).run P w = .ok (.tuple #[v1, v, v3]) w := by
  unfold results
  rw [hr]
  simp [asAddr, hp, h, h1, h3]
/-- the words from a place on, blanks passed over -/
def wk (f : Nat → Nat) (n p : Nat) : List (Nat × Wd) × Option Nat := wds f n n (En f n 1 p)
theorem wk_zero (f : Nat → Nat) (n : Nat) : wk f n 0 = words f n := by
  unfold wk words
  rw [← En.abs (Nat.zero_le _), Rn.off_zero, Nat.zero_add, Nat.sub_zero]
theorem wk_blank {f : Nat → Nat} {n p : Nat} (hf : ∀ j, f j < 256) (hp : p < n) (h : Ch.isT Ch.tab 1 (Rn.dec (Rn.off f p) (n - p)).1 = true) : wk f n p = wk f n (p + (Rn.dec (Rn.off f p) (n - p)).2) := by
  unfold wk
  rw [En.go hf hp h]
theorem wk_end {f : Nat → Nat} {n p : Nat} (hp : ¬ p < n) : wk f n p = ([], none) := by
  unfold wk
  rw [En.end_ hp]
  exact wds_end _ _ _ _ (by omega)
theorem wk_ok {f : Nat → Nat} {n p : Nat} (hf : ∀ j, f j < 256) (hp : p < n) (h : Ch.isT Ch.tab 1 (Rn.dec (Rn.off f p) (n - p)).1 = false) (ho : (rd (Rn.off f p) (n - p)).ok = true) : wk f n p = ((p, rd (Rn.off f p) (n - p)) :: (wk f n (p + (rd (Rn.off f p) (n - p)).wd)).1, (wk f n (p + (rd (Rn.off f p) (n - p)).wd)).2) := by
  have hs := nxt_spec hf hp ho
  have e : nxt f n p = En f n 1 (p + (rd (Rn.off f p) (n - p)).wd) := by
    rw [← En.abs (by omega)]
    rfl
  unfold wk
  rw [En.stop hp h, wds_fuel hf n (n + 1) p (by omega) (by omega), wds_ok hp ho, e]
theorem wk_bad {f : Nat → Nat} {n p : Nat} (hf : ∀ j, f j < 256) (hp : p < n) (h : Ch.isT Ch.tab 1 (Rn.dec (Rn.off f p) (n - p)).1 = false) (ho : (rd (Rn.off f p) (n - p)).ok = false) : wk f n p = ([], some (p + (rd (Rn.off f p) (n - p)).wd)) := by
  unfold wk
  rw [En.stop hp h, wds_fuel hf n (n + 1) p (by omega) (by omega), wds_bad hp ho]
/-- what word answers, its cells written out -/
inductive WdL (f : Nat → Nat) (n i p : Nat) (w : World) : Ending → World → Prop
  | ok (k : Nat) (tx : ByteArray) (nm wd cnt : Nat) (w' : World) (h : rd (Rn.off f p) (n - p) = ⟨k, tx, nm, wd, true⟩) (hc : 0 < cnt) (hI : Ix f n (i + cnt) (p + wd)) (hb : Below w.heap.size w w') : WdL f n i p w (.returned (.tuple #[.agg #[.int .i64 (k : Nat), .string tx, .int .i64 (nm : Nat), .int .i64 0, .int .i64 0, .int .i64 0, .int .i64 0], .int .i64 (cnt : Nat), .int .i64 (-1)])) w'
  | bad (k : Nat) (tx : ByteArray) (nm wd cnt q : Nat) (w' : World) (h : (rd (Rn.off f p) (n - p)).ok = false) (hw : (rd (Rn.off f p) (n - p)).wd = wd) (hI : Ix f n q (p + wd)) (hlt : p + wd < n) (hb : Below w.heap.size w w') : WdL f n i p w (.returned (.tuple #[.agg #[.int .i64 (k : Nat), .string tx, .int .i64 (nm : Nat), .int .i64 0, .int .i64 0, .int .i64 0, .int .i64 0], .int .i64 (cnt : Nat), .int .i64 (q : Nat)])) w'
theorem WdE.lit {f : Nat → Nat} {n i p : Nat} {w w' : World} {e : Ending} (h : WdE f n i p w e w') : WdL f n i p w e w' := by
  cases h with
  | ok cnt _ h hc hI hb =>
    obtain ⟨x, hx⟩ : ∃ x, rd (Rn.off f p) (n - p) = x := ⟨_, rfl⟩
    rw [hx] at h hI ⊢
    obtain ⟨k, tx, nm, wd, ok⟩ := x
    obtain rfl : ok = true := h
    exact .ok k tx nm wd cnt _ hx hc hI hb
  | bad q tx nm cnt k _ h hI hlt hb => exact .bad q tx nm _ cnt k _ h rfl hI hlt hb
/-- a word's block, its place laid in -/
theorem word_at {w4 : World} {Wb : Nat} {q r : Nat × Nat × Nat × Nat} {k : Nat} {tx : ByteArray} {nm : Nat} (hW : w4.heap[Wb]? = some (.cells (wdC k tx nm r) 43 (0, 0))) : w4.there Wb 3 (plA q).size ∧ (w4.setCells Wb 3 (plA q).toList).rangeAt Wb 0 (wdC k tx nm q).toList := by
  have hW6 := heap_setCells (plA q).toList 3 _ _ hW
  rw [setAll_wd] at hW6
  exact ⟨there_of hW 3 4 (by simp [wdC]), range_of hW6⟩
/-- behind a word the rest is whole characters -/
theorem run_word {f : Nat → Nat} {n p k nm wd : Nat} {tx : ByteArray} {ok : Bool} (hf : ∀ j, f j < 256) (hp : p < n) (hr : Run f n p n) (hrd : rd (Rn.off f p) (n - p) = ⟨k, tx, nm, wd, ok⟩) : Run f n (p + wd) n := by
  obtain ⟨a1, a2, a3⟩ := rd_spec (f := Rn.off f p) (n := n - p) (fun _ => hf _) (by omega)
  have r1 := run_shift (d := p) (a3 (run_unshift (d := p) hr 0 (n - p) rfl (by omega))) (by omega)
  rw [hrd, Nat.add_zero] at r1
  exact r1.diff hr (by rw [Nat.sub_self]; exact whole_none _)
def pl0 : Array Value := #[.int .i64 0, .int .i64 0, .int .i64 0, .int .i64 0]
/-- where Words stands between two words -/
structure Rst (f : Nat → Nat) (n : Nat) (w : World) (B i p : Nat) (acc : List (Nat × Wd)) (v : Value) (wr : World) : Prop where
  row : wr.ownsRow B 43 7 v acc.length (wdls f n acc)
  ix : Ix f n i p
  run : Run f n p n
  e1 : acc ++ (wk f n p).1 = (words f n).1
  e2 : (wk f n p).2 = (words f n).2
  sz : acc.length ≤ p
  bl : Below w.heap.size w wr
  pl : wr.heap[w.heap.size]? = some (.cells pl0 30 (0, 0))
  lo : w.heap.size < B
  hi : B ≤ wr.heap.size
theorem Rst.below {f : Nat → Nat} {n : Nat} {w : World} {B i p : Nat} {acc : List (Nat × Wd)} {v : Value} {wr w' : World} (h : Rst f n w B i p acc v wr) (hb : Below wr.heap.size wr w') : Rst f n w B i p acc v w' :=
  { h with row := row_keep h.row (fun q _ hq => hb.block q hq), pl := (hb.block _ (Array.getElem?_eq_some_iff.1 h.pl).1).trans h.pl, bl := h.bl.trans (hb.mono h.bl.size), hi := Nat.le_trans h.hi hb.size }
end Lx
set_option maxRecDepth 100000 in
set_option maxHeartbeats 8000000 in
theorem refWords10 (f : Nat → Nat) (n : Nat) (v : Value) (w : World) (hf : ∀ j, f j < 256) (hn : n ≤ 1099511627776) (h : ArgS w f n v) :
    Calls Tryd.prog 9 #[v] w fun e w' => Lx.RWE f n w e w' := by
  have hb0 := (Below.refl w.heap.size w).alloc (Nat.le_refl _) (.cells #[.int .i64 0, .int .i64 0, .int .i64 0, .int .i64 0] 30)
  have cG := refGood_arg (h.below hb0 (Nat.le_refl _)) hn
  have hgl := Rn.good_le f n
  have HA := hide' h
  obtain ⟨pa, cap, rfl, c1, c2, _, _⟩ := arg_parts h
  have hcap : cap ≤ 9223372036854775807 := by unfold maxLen at c2; omega
  obtain ⟨W2, hW2⟩ : ∃ W2, W2 = (w.alloc (.cells #[.int .i64 0, .int .i64 0, .int .i64 0, .int .i64 0] 30)).alloc (.cells #[.slice none 0 0, .bool false] 60) := ⟨_, rfl⟩
  have hb2 : Below w.heap.size w W2 := by rw [hW2]; exact hb0.alloc hb0.size _
  have hm2 : W2.heap[w.heap.size + 1]? = some (.cells #[.slice none 0 0, .bool false] 60 (0, 0)) := by
    rw [hW2]
    have := Lx.heap_new (w.alloc (.cells #[.int .i64 0, .int .i64 0, .int .i64 0, .int .i64 0] 30)) (.cells #[.slice none 0 0, .bool false] 60)
    rwa [Lx.size_alloc] at this
  have hp2 : W2.heap[w.heap.size]? = some (.cells Lx.pl0 30 (0, 0)) := by
    rw [hW2]
    exact (((Below.refl _ _).alloc (Nat.le_refl _) _).block _ (by simp)).trans (Lx.heap_new w _)
  have H2 := hide' (And.intro hb2 (And.intro hm2 hp2))
  obtain ⟨G, hG⟩ : ∃ G, G = Rn.good f n := ⟨_, rfl⟩
  rw [← hG] at cG hgl
  have HG := hide' hG
  clear h hb0 hb2 hm2 hp2 hG c2
  go_enter Tryd.func9, Tryd.ntmps9
  go_wp2_with fail
  refine cG.mono ?_
  rintro e w1 ⟨rfl, rfl⟩
  clear cG
  go_wp2_with fail
  rw [← hW2]
  clear hW2
  go_loopw [7] (fun v7 wr => ∃ j s : Nat, v7 = .int .i64 j ∧ j ≤ G ∧ Lx.Dst f n s j ∧ DecS f (w.heap.size + 1) s j wr ∧ Below w.heap.size w wr ∧ wr.heap[w.heap.size]? = some (.cells Lx.pl0 30 (0, 0)) ∧ w.heap.size + 1 < wr.heap.size) (fun v7 _ => G - (RowKit.intOf v7).toNat)
  case atStart => exact ⟨0, 0, rfl, Nat.zero_le _, ⟨.refl _, Nat.le_refl _, Nat.zero_le _, fun h => by omega⟩, .inl ⟨rfl, fun _ => 0, fun _ => by show 0 < 256; omega, H2.out.2.1, World.ownsRow_nil _ _ _ _⟩, H2.out.1, H2.out.2.2, (Array.getElem?_eq_some_iff.1 H2.out.2.1).1⟩
  case round =>
    obtain ⟨j, s, rfl, hj, hd, hs, hbl, hpl, hsz⟩ := hrel
    have HBL := hide' (And.intro hbl (And.intro hpl hsz))
    by_cases hlt : j < G
    · have t1 : (j : Int) < (G : Int) := by omega
      obtain ⟨pa', cap', e1, _, _, _, c4⟩ := arg_parts (HA.out.below hbl (Nat.le_refl _))
      cases e1
      rcases c4 with h0 | ⟨b, o, rfl, hby⟩
      · omega
      have pj := hby j (by omega)
      have cT := DecS.take hf hd (by rw [← HG.out]; exact hlt) hs
      have t2 : (j : Int) < (n : Int) := by omega
      clear hd hs hbl hpl hsz hby H2
      go_wp2_with fail
      refine cT.mono ?_
      rintro e w5 ⟨vv, s', rfl, hd', hs', hB'⟩
      have H5 := hide' (And.intro hd' (And.intro hs' hB'))
      clear cT hd' hs' hB'
      go_wp2_with fail
      obtain ⟨a1, a2, a3⟩ := H5.out
      obtain ⟨d1, d2, d3⟩ := HBL.out
      refine ⟨⟨j + 1, s', rfl, by omega, a1, a2, d1.trans (a3.below (by omega) (by omega)), (a3.block _ (by omega) (by omega)).trans d2, Nat.lt_of_lt_of_le d3 a3.size⟩, by simp [RowKit.intOf]; omega⟩
    · obtain rfl : j = G := by omega
      have t1 : ¬ (j : Int) < (j : Int) := by omega
      rw [HG.out] at hd
      have hall := hd.all
      rw [← HG.out] at hall
      cases hv : Lx.V f n 0
      · have hfl : Lx.flt f n = some (j, 103) := by unfold Lx.flt; rw [hv, if_neg (by simp), ← HG.out]
        have hav := HA.out.below hbl (Nat.le_refl _)
        have cA := refAt10 f n j _ wr hf hgl hn hav
        clear hav
        by_cases hjn : j < n
        · have t2 : (j : Int) < (n : Int) := by omega
          have HC := hide' (And.intro hfl (And.intro HBL.out.1 HBL.out.2.1))
          clear hfl hall hd hs hbl hpl hsz H2 HBL HG hv
          go_wp2_with fail
          refine cA.mono ?_
          rintro e w5 ⟨rfl, hb5⟩
          have hth : w5.there w.heap.size 0 4 := Lx.there_of ((hb5.block _ (Array.getElem?_eq_some_iff.1 HC.out.2.2).1).trans HC.out.2.2) 0 4 (by decide)
          have HT := hide' hth
          have HB5 := hide' (HC.out.2.1.trans (hb5.mono HC.out.2.1.size))
          have HFL := hide' HC.out.1
          obtain ⟨PA, hPA⟩ : ∃ PA, PA = Lx.plA (j, Rn.plc f n j) := ⟨_, rfl⟩
          have hPi : (Tryd.prog.info? 30).map (·.size) = some PA.size := by rw [hPA]; exact Lx.plA_info
          have hPo : PA.all (·.oneCell') = true := by rw [hPA]; exact Lx.plA_one _
          have hPs : PA.size = 4 := by rw [hPA]; rfl
          have HP := hide' (And.intro hPi (And.intro hPo hPs))
          rw [← hPA]
          have HPA := hide' hPA
          clear cA hb5 hth HC hPi hPo hPs hPA
          go_wp2_with (refine wpList_store_mid rfl 30 (.tmp 3) (.tmp 44) rfl w.heap.size 0 PA rfl rfl (by rw [HP.out.2.2]; exact HT.out) HP.out.1 HP.out.2.1 ?_)
          refine bodyPost_ret (v := .tuple #[.slice none 0 0, .agg PA, .int .i64 103]) (Lx.results_mid Tryd.results9 _ ⟨w.heap.size, 0, none⟩ rfl _ _ _ _ (run_loadVar_mid _ w.heap.size 0 30 PA.toList _ (World.rangeAt_setCells_same _ _ _ _ (by rw [Array.length_toList, HP.out.2.2]; exact HT.out)) Tryd.underlying30 rfl (by rw [Array.length_toList]; exact HP.out.1)) rfl rfl) rfl ?_
          rw [HPA.out]
          exact .bad j 103 _ HFL.out (Lx.below_cells (Nat.le_refl _) _ _ _ HB5.out)
        · have t2 : decide ((j : Int) < (n : Int)) = false := decide_eq_false (by omega)
          rcases hs with ⟨e, _⟩ | ⟨hsj, g, cp, x, _, _, hr⟩
          · exact absurd (hall.2 ⟨by omega, e⟩) (by rw [hv]; simp)
          have k0 : wr.cell? ⟨w.heap.size + 1, 0, none⟩ = some (.slice (some ⟨g, 0, none⟩) (j - s) cp) := by rw [Lib.cell_of_heap hr.1]; rfl
          have t3 : (0 : Int) < ((j - s : Nat) : Int) := by omega
          clear hr
          have hs : True := trivial
          have HC := hide' (And.intro hfl (And.intro HBL.out.1 HBL.out.2.1))
          clear hfl hall hd hs hbl hpl hsz H2 HBL HG hv
          go_wp2_with fail
          refine cA.mono ?_
          rintro e w5 ⟨rfl, hb5⟩
          have hth : w5.there w.heap.size 0 4 := Lx.there_of ((hb5.block _ (Array.getElem?_eq_some_iff.1 HC.out.2.2).1).trans HC.out.2.2) 0 4 (by decide)
          have HT := hide' hth
          have HB5 := hide' (HC.out.2.1.trans (hb5.mono HC.out.2.1.size))
          have HFL := hide' HC.out.1
          obtain ⟨PA, hPA⟩ : ∃ PA, PA = Lx.plA (j, Rn.plc f n j) := ⟨_, rfl⟩
          have hPi : (Tryd.prog.info? 30).map (·.size) = some PA.size := by rw [hPA]; exact Lx.plA_info
          have hPo : PA.all (·.oneCell') = true := by rw [hPA]; exact Lx.plA_one _
          have hPs : PA.size = 4 := by rw [hPA]; rfl
          have HP := hide' (And.intro hPi (And.intro hPo hPs))
          rw [← hPA]
          have HPA := hide' hPA
          clear cA hb5 hth HC hPi hPo hPs hPA
          go_wp2_with (refine wpList_store_mid rfl 30 (.tmp 3) (.tmp 44) rfl w.heap.size 0 PA rfl rfl (by rw [HP.out.2.2]; exact HT.out) HP.out.1 HP.out.2.1 ?_)
          refine bodyPost_ret (v := .tuple #[.slice none 0 0, .agg PA, .int .i64 103]) (Lx.results_mid Tryd.results9 _ ⟨w.heap.size, 0, none⟩ rfl _ _ _ _ (run_loadVar_mid _ w.heap.size 0 30 PA.toList _ (World.rangeAt_setCells_same _ _ _ _ (by rw [Array.length_toList, HP.out.2.2]; exact HT.out)) Tryd.underlying30 rfl (by rw [Array.length_toList]; exact HP.out.1)) rfl rfl) rfl ?_
          rw [HPA.out]
          exact .bad j 103 _ HFL.out (Lx.below_cells (Nat.le_refl _) _ _ _ HB5.out)
      · obtain ⟨hjn, hsj⟩ := hall.1 hv
        obtain ⟨x, hr⟩ : ∃ x, RefAt wr (w.heap.size + 1) (.slice none 0 0) x 0 false := by
          rcases hs with ⟨_, x, _, hr⟩ | ⟨hlt', _⟩
          · exact ⟨x, hr⟩
          · omega
        have k0 : wr.cell? ⟨w.heap.size + 1, 0, none⟩ = some (.slice none 0 0) := by rw [Lib.cell_of_heap hr.1]; rfl
        have t2 : decide ((j : Int) < (n : Int)) = false := decide_eq_false (by omega)
        have t2' : ¬ j < n := by omega
        have cC := refChars_arg hf (HA.out.below hbl (Nat.le_refl _)) hn
        have hrun : Fd.Run f n 0 n := (Lx.vd_run f n).1 hv
        have hflt : Lx.flt f n = (Lx.words f n).2.map (fun a => (a, 104)) := by unfold Lx.flt; rw [if_pos hv]
        have HF := hide' (And.intro hrun hflt)
        clear hr hjn hsj hall hd hs hbl hpl hsz H2 HG hv hrun hflt x
        go_wp2_with fail
        refine cC.mono ?_
        rintro e w5 ⟨vc, rfl, hCR, hb5⟩
        have hB5 := HBL.out.1.trans (hb5.mono HBL.out.1.size)
        have hcv := (HA.out.below hB5 (Nat.le_refl _)).text hf
        have hpl5 : w5.heap[w.heap.size]? = some (.cells Lx.pl0 30 (0, 0)) := (hb5.block _ (Array.getElem?_eq_some_iff.1 HBL.out.2.1).1).trans HBL.out.2.1
        have hs5 : w.heap.size < w5.heap.size := (Array.getElem?_eq_some_iff.1 hpl5).1
        have H5 := hide' (And.intro hB5 hpl5)
        have HCR := hide' hCR
        have hlen := Lx.chl_len f n hf
        obtain ⟨pc, cc, rfl, d1, d2, d3⟩ := hCR
        obtain ⟨L, hL⟩ : ∃ L, L = (Rn.chl f n).length := ⟨_, rfl⟩
        rw [← hL] at d1 d3 hlen ⊢
        have HL := hide' hL
        have HD3 := hide' d3
        obtain ⟨i0, hi, hz0, hz1, hz2⟩ := info_parts Lx.wdInfo3
        clear cC hb5 hB5 hpl5 hL d3 k0 HBL
        go_wp2_with fail
        obtain ⟨w4, rfl⟩ : ∃ w4, w4 = wr := ⟨_, rfl⟩
        go_loopw [10, 11] (fun v10 v11 wx => ∃ (i p : Nat) (acc : List (Nat × Lx.Wd)), v11 = .int .i64 (i : Nat) ∧ Lx.Rst f n w w5.heap.size i p acc v10 wx ∧ Below w5.heap.size w5 wx) (fun _ v11 _ => L - (RowKit.intOf v11).toNat)
        case atStart => exact ⟨0, 0, [], rfl, ⟨World.ownsRow_nil _ _ _ _, Lx.Ix.zero f n, HF.out.1, by rw [Lx.wk_zero]; rfl, by rw [Lx.wk_zero], Nat.zero_le _, H5.out.1, H5.out.2, hs5, Nat.le_refl _⟩, Below.refl _ _⟩
        case round =>
          obtain ⟨i, p, acc, rfl, I, hbx⟩ := hrel
          have hCx := HCR.out.below hbx (Nat.le_refl _)
          by_cases hp : p < n
          · obtain ⟨k1, k2⟩ := I.ix.at_ hp
            rw [← HL.out] at k1
            have t5 : (i : Int) < (L : Int) := by omega
            obtain ⟨g, rfl, c4⟩ := HD3.out (by omega)
            obtain ⟨q0, q1⟩ := c4 _ _ k2
            obtain ⟨r, hr⟩ : ∃ r, r = (Rn.dec (Rn.off f p) (n - p)).1 := ⟨_, rfl⟩
            rw [← hr] at q1
            have p0 := (hbx.cell (p := ⟨g, i * 3, none⟩) (block_lt_of_cell q0)).trans q0
            have p1 := (hbx.cell (p := ⟨g, i * 3 + 1, none⟩) (block_lt_of_cell q1)).trans q1
            have cB := refBlank_any r wr
            cases hc : Ch.isT Ch.tab 1 r
            · rw [hc] at cB
              rw [hr] at hc
              have cW := (refWord_any f n i p _ wr hf hn hCx I.ix hp I.run).mono (fun e w' h => h.lit)
              rw [← HL.out] at cW
              have HI := hide' (And.intro I (And.intro hbx (And.intro hc hp)))
              have hsx := hbx.size
              have H4 := hide' c4
              have HC2 := hide' hCx
              have CW := hide' cW
              have iw := I.bl.size
              have hacc := I.sz
              clear k2 c4 q0 q1 hr hc I hbx hCx cW
              go_wp2_with fail
              refine cB.mono ?_
              rintro e w6 ⟨rfl, rfl⟩
              clear cB
              go_wp2_with fail
              refine CW.out.mono ?_
              intro e w7 hE
              clear CW
              cases hE with
              | ok k tx nm wd cnt _ hrd hc0 hIx hb7 =>
                have H7 := hide' (And.intro hrd (And.intro hIx hb7))
                have hs7 := hb7.size
                have hbA : Below w.heap.size w (w7.alloc (.cells #[.int .i64 (k : Nat), .string tx, .int .i64 (nm : Nat), .int .i64 0, .int .i64 0, .int .i64 0, .int .i64 0] 43)) := (HI.out.1.bl.trans (hb7.mono HI.out.1.bl.size)).alloc (Nat.le_trans HI.out.1.bl.size hb7.size) _
                have cA := refAt10 f n p _ _ hf (Nat.le_of_lt hp) hn (HA.out.below hbA (Nat.le_refl _))
                obtain ⟨PA, hPA⟩ : ∃ PA, Lx.plA (p, Rn.plc f n p) = PA := ⟨_, rfl⟩
                have hPAi := Lx.plA_size (p, Rn.plc f n p)
                have hPAo := Lx.plA_one (p, Rn.plc f n p)
                rw [hPA] at cA hPAi hPAo
                have HPA := hide' hPA
                have HI1 := hide' hPAi
                have HI4 := hide' hPAo
                have HBA := hide' hbA
                have p07 : (w7.alloc (.cells #[.int .i64 (k : Nat), .string tx, .int .i64 (nm : Nat), .int .i64 0, .int .i64 0, .int .i64 0, .int .i64 0] 43)).cell? ⟨g, i * 3, none⟩ = some (.int .i64 (p : Nat)) := (((Below.refl w7.heap.size w7).alloc (Nat.le_refl _) _).cell (p := ⟨g, i * 3, none⟩) (Nat.lt_of_lt_of_le (block_lt_of_cell p0) hs7)).trans ((hb7.cell (p := ⟨g, i * 3, none⟩) (block_lt_of_cell p0)).trans p0)
                have CA := hide' cA
                clear hrd hIx hb7 hbA cA hPA hPAi hPAo p0 p1
                go_wp2_with fail
                refine CA.out.mono ?_
                rintro e w8 ⟨rfl, hb8⟩
                clear CA
                have hs8 := hb8.size
                have hsA : (w7.alloc (.cells #[.int .i64 (k : Nat), .string tx, .int .i64 (nm : Nat), .int .i64 0, .int .i64 0, .int .i64 0, .int .i64 0] 43)).heap.size = w7.heap.size + 1 := by simp
                have hW8 : w8.heap[w7.heap.size]? = some (.cells (Lx.wdC k tx nm (0, 0, 0, 0)) 43 (0, 0)) := (hb8.block _ (by omega)).trans (Lx.heap_new w7 _)
                have hq8 : ∀ q, q < w6.heap.size → w8.heap[q]? = w6.heap[q]? := fun q hq => (hb8.block _ (by omega)).trans ((((Below.refl _ _).alloc (Nat.le_refl _) _).block _ (by omega)).trans (H7.out.2.2.block q hq))
                have hMem := Lx.word_at (q := (p, Rn.plc f n p)) hW8
                rw [HPA.out] at hMem
                obtain ⟨WA, hWA⟩ : ∃ WA, Lx.wdC k tx nm (p, Rn.plc f n p) = WA := ⟨_, rfl⟩
                rw [hWA] at hMem
                have HWA := hide' hWA
                have HM := hide' hMem
                have hrow8 : (w8.setCells w7.heap.size 3 PA.toList).ownsRow w5.heap.size 43 7 u10 acc.length (Lx.wdls f n acc) := Lx.row_keep HI.out.1.row (fun q h1 h2 => (Lx.heap_far (by omega) _ _ _).trans (hq8 q h2))
                have hb58 : Below w5.heap.size w5 w8 := ((HI.out.2.1.trans (H7.out.2.2.mono HI.out.2.1.size)).alloc (by omega) _).trans (hb8.mono (by omega))
                have HX := hide' (And.intro hrow8 (And.intro hb58 hs8))
                have hic := H7.out.2.1.2.1
                rw [← HL.out] at hic
                clear hW8 hq8 hMem hWA hrow8 hb58 hb8 hs8 hsA
                go_wp2_with (first | refine wpList_store_mid rfl 30 (.tmp 85) (.tmp 84) rfl w7.heap.size 3 PA rfl rfl HM.out.1 HI1.out HI4.out ?_ | refine wpList_load_mid rfl 43 (.tmp 12) rfl w7.heap.size 0 rfl [.int .i64 (k : Nat), .string tx, .int .i64 (nm : Nat), .int .i64 (p : Nat), .int .i64 ((Rn.plc f n p).1 : Nat), .int .i64 ((Rn.plc f n p).2.1 : Nat), .int .i64 ((Rn.plc f n p).2.2 : Nat)] _ (Lx.range_cast HM.out.2 HWA.out rfl) Tryd.underlying43 rfl Lx.wdInfo ?_ | (at_builtin; refine wpList_append_own _ rfl _ _ 24 rfl w5.heap.size 43 i0 (.agg Lx.wd0) 7 64 Tryd.underlying24 hi hz0 hz1 hz2 rfl (by decide) _ acc.length (Lx.wdls f n acc) rfl (HX.out.1.alloc _) ⟨(w8.setCells w7.heap.size 3 PA.toList).heap.size, 0, none⟩ 1 1 [.int .i64 (k : Nat), .string tx, .int .i64 (nm : Nat), .int .i64 (p : Nat), .int .i64 ((Rn.plc f n p).1 : Nat), .int .i64 ((Rn.plc f n p).2.1 : Nat), .int .i64 ((Rn.plc f n p).2.2 : Nat)] rfl rfl ?c1 ?c2 ?c3 ?c4 ?c5 ?_))
                case c1 => exact Lx.word_news _ #[.int .i64 (k : Nat), .string tx, .int .i64 (nm : Nat), .int .i64 (p : Nat), .int .i64 ((Rn.plc f n p).1 : Nat), .int .i64 ((Rn.plc f n p).2.1 : Nat), .int .i64 ((Rn.plc f n p).2.2 : Nat)] _
                case c2 => exact Lx.wdl_cell f n (p, Lx.Wd.mk k tx nm wd true)
                case c3 => unfold maxLen; omega
                case c4 => omega
                case c5 => have := HX.out.2.2; have := HX.out.2.1.size; rw [Lx.size_alloc, Lx.size_setCells]; omega
                intro v' w9 hown hgrow _
                have hb9 : Below w5.heap.size w5 ((w8.setCells w7.heap.size 3 PA.toList).alloc (.cells #[.int .i64 (k : Nat), .string tx, .int .i64 (nm : Nat), .int .i64 (p : Nat), .int .i64 ((Rn.plc f n p).1 : Nat), .int .i64 ((Rn.plc f n p).2.1 : Nat), .int .i64 ((Rn.plc f n p).2.2 : Nat)] 43)) := (Lx.below_cells (by omega) _ _ _ HX.out.2.1).alloc (by rw [Lx.size_setCells]; exact HX.out.2.1.size) _
                have hb10 : Below w5.heap.size w5 w9 := Lx.grown_below hb9 hgrow (fun q hq => (HI.out.1.row.lt q hq).1) (Nat.le_refl _)
                have hrow : w9.ownsRow w5.heap.size 43 7 v' (acc ++ [(p, Lx.Wd.mk k tx nm wd true)]).length (Lx.wdls f n (acc ++ [(p, Lx.Wd.mk k tx nm wd true)])) := by
                  rw [Lx.wdls_append, Lx.wdls_one, List.length_append]
                  exact hown
                have hN := hide' (And.intro hb10 hrow)
                clear hown hgrow hb9 hb10 hrow HM HWA
                go_wp2_with fail
                obtain ⟨I, hbx, hcb, hpn⟩ := HI.out
                obtain ⟨hrd, hIx, _⟩ := H7.out
                have ho : (Lx.rd (Rn.off f p) (n - p)).ok = true := by rw [hrd]
                have hwk := Lx.wk_ok hf hpn hcb ho
                rw [hrd] at hwk
                have hsp := Lx.nxt_spec hf hpn ho
                rw [hrd] at hsp
                have hru : Fd.Run f n (p + wd) n := Lx.run_word hf hpn I.run hrd
                have e1 := I.e1
                have e2 := I.e2
                rw [hwk] at e1 e2
                exact ⟨⟨i + cnt, p + wd, acc ++ [(p, Lx.Wd.mk k tx nm wd true)], congrArg (Value.int .i64) (by omega), ⟨hN.out.2, hIx, hru, by rw [List.append_assoc]; exact e1, e2, by rw [List.length_append]; have := I.sz; have h0 : p < p + wd := hsp.1; simp; omega, H5.out.1.trans (hN.out.1.mono H5.out.1.size), (hN.out.1.block _ hs5).trans H5.out.2, hs5, hN.out.1.size⟩, hN.out.1⟩, by simp [RowKit.intOf]; omega⟩
              | bad k tx nm wd cnt q _ ho hwd hIx hlt7 hb7 =>
                obtain ⟨m1, m2⟩ := hIx.at_ hlt7
                rw [← HL.out] at m1
                have t6 : (q : Int) < (L : Int) := by omega
                have qq := (H4.out _ _ m2).1
                have hs7 := hb7.size
                have hbA : Below w5.heap.size w5 (w7.alloc (.cells #[.int .i64 (k : Nat), .string tx, .int .i64 (nm : Nat), .int .i64 0, .int .i64 0, .int .i64 0, .int .i64 0] 43)) := (HI.out.2.1.trans (hb7.mono HI.out.2.1.size)).alloc (by omega) _
                have pq := (hbA.cell (p := ⟨g, q * 3, none⟩) (block_lt_of_cell qq)).trans qq
                have hbW := H5.out.1.trans (hbA.mono H5.out.1.size)
                have cA := refAt10 f n (p + wd) _ _ hf (by omega) hn (HA.out.below hbW (Nat.le_refl _))
                have hwk := Lx.wk_bad hf HI.out.2.2.2 HI.out.2.2.1 ho
                rw [hwd] at hwk
                have e2 := HI.out.1.e2
                rw [hwk] at e2
                have hfl : Lx.flt f n = some (p + wd, 104) := by rw [HF.out.2, ← e2]; rfl
                obtain ⟨a, ha⟩ : ∃ a, a = p + wd := ⟨_, rfl⟩
                rw [← ha] at cA hfl pq
                have han : a ≤ n := by omega
                have hplA := (hbA.block _ hs5).trans H5.out.2
                obtain ⟨PA, hPA⟩ : ∃ PA, PA = Lx.plA (a, Rn.plc f n a) := ⟨_, rfl⟩
                have hPi : (Tryd.prog.info? 30).map (·.size) = some PA.size := by rw [hPA]; exact Lx.plA_info
                have hPo : PA.all (·.oneCell') = true := by rw [hPA]; exact Lx.plA_one _
                have hPs : PA.size = 4 := by rw [hPA]; rfl
                have HP := hide' (And.intro hPi (And.intro hPo hPs))
                rw [← hPA] at cA
                have HPA := hide' hPA
                have HFL := hide' hfl
                have HBW := hide' (And.intro hbW hplA)
                have CA := hide' cA
                clear m2 qq hbA hbW cA hwk e2 hfl ha hplA hPi hPo hPs hPA ho hwd hIx hb7 hlt7 p0 p1 han
                go_wp2_with fail
                refine CA.out.mono ?_
                rintro e w8 ⟨rfl, hb8⟩
                have hth : w8.there w.heap.size 0 4 := Lx.there_of ((hb8.block _ (Array.getElem?_eq_some_iff.1 HBW.out.2).1).trans HBW.out.2) 0 4 (by decide)
                have HT := hide' hth
                have HB8 := hide' (HBW.out.1.trans (hb8.mono HBW.out.1.size))
                clear CA hb8 hth HBW
                go_wp2_with (refine wpList_store_mid rfl 30 (.tmp 3) (.tmp 77) rfl w.heap.size 0 PA rfl rfl (by rw [HP.out.2.2]; exact HT.out) HP.out.1 HP.out.2.1 ?_)
                refine bodyPost_ret (v := .tuple #[.slice none 0 0, .agg PA, .int .i64 104]) (Lx.results_mid Tryd.results9 _ ⟨w.heap.size, 0, none⟩ rfl _ _ _ _ (run_loadVar_mid _ w.heap.size 0 30 PA.toList _ (World.rangeAt_setCells_same _ _ _ _ (by rw [Array.length_toList, HP.out.2.2]; exact HT.out)) Tryd.underlying30 rfl (by rw [Array.length_toList]; exact HP.out.1)) rfl rfl) rfl ?_
                rw [HPA.out]
                exact .bad a 104 _ HFL.out (Lx.below_cells (Nat.le_refl _) _ _ _ HB8.out)
            · rw [hc] at cB
              rw [hr] at hc
              have hd := Lx.dec_some (Rn.off f p) (n - p) (fun _ => hf _) (by omega)
              have hix := I.ix.next hf hp
              have hrn := Lx.run_next hf hp I.run
              have hwk := Lx.wk_blank hf hp hc
              have e1 := I.e1
              have e2 := I.e2
              rw [hwk] at e1 e2
              have HK := hide' (Lx.Rst.mk (B := w5.heap.size) I.row hix hrn e1 e2 (by have := I.sz; omega) I.bl I.pl I.lo I.hi)
              have HBX := hide' hbx
              clear k2 c4 q0 q1 hr hc I hbx hCx hd hix hrn hwk e1 e2
              go_wp2_with fail
              refine cB.mono ?_
              rintro e w6 ⟨rfl, rfl⟩
              clear cB
              go_wp2_with fail
              exact ⟨⟨i + 1, _, acc, rfl, HK.out, HBX.out⟩, by simp [RowKit.intOf]; omega⟩
          · have k1 := I.ix.end_ hp
            rw [← HL.out] at k1
            have t5 : ¬ (i : Int) < (L : Int) := by omega
            have hwk := Lx.wk_end (f := f) hp
            have e1 := I.e1
            have e2 := I.e2
            rw [hwk] at e1 e2
            rw [List.append_nil] at e1
            have hfl : Lx.flt f n = none := by rw [HF.out.2, ← e2]; rfl
            have hrow := I.row
            rw [e1] at hrow
            have hth : wr.there w.heap.size 0 4 := Lx.there_of I.pl 0 4 (by decide)
            have HT := hide' hth
            have HR := hide' (And.intro hfl (And.intro (Lx.row_base hrow (Nat.le_of_lt hs5)) (And.intro I.bl hs5)))
            have hlo : ∀ q, u10.ownBlock = some q → w.heap.size < q := fun q hq => by have := (I.row.lt q hq).1; omega
            have HLO := hide' hlo
            clear k1 hwk e1 e2 hfl hrow hth I hbx hCx HCR hp hlo
            go_wp2_with (refine wpList_store_mid rfl 30 (.tmp 3) (.tmp 94) rfl w.heap.size 0 #[.int .i64 0, .int .i64 0, .int .i64 0, .int .i64 0] rfl rfl HT.out Lx.plA_info (by simp [Value.oneCell']) ?_)
            refine bodyPost_ret (v := .tuple #[u10, .agg #[.int .i64 0, .int .i64 0, .int .i64 0, .int .i64 0], .int .i64 0]) (Lx.results_mid Tryd.results9 _ ⟨w.heap.size, 0, none⟩ rfl _ _ _ _ (run_loadVar_mid _ w.heap.size 0 30 [.int .i64 0, .int .i64 0, .int .i64 0, .int .i64 0] _ (World.rangeAt_setCells_same _ _ _ _ HT.out) Tryd.underlying30 rfl Lx.plA_info) rfl rfl) rfl ?_
            exact .ok u10 _ HR.out.1 (Lx.row_at HR.out.2.1 (fun q hq => Lx.heap_far (by have := HLO.out q hq; omega) _ _ _)) (Lx.below_cells (Nat.le_refl _) _ _ _ HR.out.2.2.1)
end Go.Proofs.YtoccedbnnafjcaaDoor
