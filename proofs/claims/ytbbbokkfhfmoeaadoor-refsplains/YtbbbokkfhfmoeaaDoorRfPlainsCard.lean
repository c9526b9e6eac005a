import Derived.Test.YtbbbokkfhfmoeaaDoorRfPlain
import Derived.Test.YtbbbokkfhfmoeaaDoorChLawTexts
import Derived.Test.YtbbbokkfhfmoeaaDoorChTabs
import Derived.Test.YtbbbokkfhfmoeaaDoorCards
import Derived.Test.YtbbbokkfhfmoeaaDoorTie
import Derived.SevenTiedAt
import Derived.ChangeMaps5
import Derived.OpenShut
import Derived.SizedLaws
/-
  THE WALK over the document's Plain.
-/
namespace Go.Proofs.YtbbbokkfhfmoeaaDoor
open Go.RowKit Go.Lib

namespace Rf
/-- the same as pa, with a look for < at each place -/
def pr : Nat → List UInt8 → List UInt8 → Option (List UInt8)
  | 0, _, acc => some acc
  | _ + 1, [], acc => some acc
  | k + 1, x :: r, acc => if x = 60 then none else if x = 38 then (if (rd (lfn (x :: r)) (x :: r).length).2.2 = 0 then pr k ((x :: r).drop (rd (lfn (x :: r)) (x :: r).length).2.1) (acc ++ Lib.encodeRune (rd (lfn (x :: r)) (x :: r).length).1) else none) else pr k r (acc ++ [x])
theorem pr_eq : ∀ (k : Nat) (l acc : List UInt8), 60 ∉ l → pr k l acc = pa k l acc
  | 0, _, _, _ => rfl
  | _ + 1, [], _, _ => rfl
  | k + 1, x :: r, acc, h => by
    have hx : x ≠ 60 := fun e => h (by rw [e]; exact List.mem_cons_self ..)
    have hr : 60 ∉ r := fun e => h (List.mem_cons_of_mem _ e)
    unfold pr pa
    rw [if_neg hx]
    split
    · split
      · exact pr_eq k _ _ (fun e => h (List.mem_of_mem_drop e))
      · rfl
    · exact pr_eq k _ _ hr
theorem rn_no60 {f : Nat → Nat} {base c : Nat} (hb : Bas base c) : ∀ (k a v : Nat), (rn f base c k a v).2.2 = 0 → ∀ j, a ≤ j → j < (rn f base c k a v).2.1 → f j ≠ 60
  | 0, _, _, h, _, _, _ => by cases h
  | k + 1, a, v, h, j, h1, h2 => by
    rw [rn_succ] at h h2
    by_cases q : isD c (f a) = true
    · rw [if_pos q] at h h2
      by_cases p : 1114111 < v * base + dv (f a)
      · rw [if_pos p] at h; cases h
      · rw [if_neg p] at h h2
        by_cases e : j = a
        · subst e
          intro e60
          rw [e60] at q
          rcases hb with ⟨_, rfl⟩ | ⟨_, rfl⟩
          · exact absurd q (by decide +kernel)
          · exact absurd q (by decide +kernel)
        · exact rn_no60 hb k (a + 1) _ h j (by omega) h2
    · rw [if_neg q] at h h2
      by_cases p : f a = 59 ∧ Ch.isT Ch.tab 0 (v : Int) = true
      · rw [if_pos p] at h2
        dsimp only at h2
        obtain rfl : j = a := by omega
        rw [p.1]
        decide
      · rw [if_neg p] at h; cases h
theorem whl_no60 : ∀ e ∈ nmT, ∀ y ∈ whl e.1, y ≠ 60 := by decide +kernel
theorem rd_no60 {f : Nat → Nat} {n : Nat} (h : (rd f n).2.2 = 0) : ∀ j, j < (rd f n).2.1 → f j ≠ 60 := by
  intro j hj
  by_cases h0 : 0 < n ∧ f 0 ≠ 38
  · unfold rd at h; rw [if_pos h0] at h; cases h
  by_cases h1 : n < 2
  · unfold rd at h; rw [if_neg h0, if_pos h1] at h; cases h
  have e0 : f 0 = 38 := by
    by_cases q : f 0 = 38
    · exact q
    · exact absurd ⟨by omega, q⟩ h0
  by_cases h2 : f 1 ≠ 35
  · have e : rd f n = nm f n := by unfold rd; rw [if_neg h0, if_neg h1, if_pos h2]
    rw [e] at h hj
    rcases nm_ways f n with ⟨e, he, hf, q, _⟩ | ⟨_, _, q⟩ | ⟨_, _, q⟩
    · rw [q] at hj
      have hjl : j < (whl e.1).length := by rw [whl_len]; exact hj
      have := (cp_full f n (whl e.1) 0 (by rw [whl_len]; unfold cmn at hf; omega) j hjl).2
      rw [Nat.zero_add] at this
      rw [this]
      intro e60
      exact whl_no60 e he _ (List.getElem_mem hjl) (UInt8.toNat_inj.1 e60)
    · rw [q] at h; cases h
    · rw [q] at h; cases h
  · have e1 : f 1 = 35 := by omega
    have e : rd f n = rdN f n := by unfold rd; rw [if_neg h0, if_neg h1, if_neg h2]
    rw [e] at h hj
    unfold rdN at h hj
    by_cases h3 : 2 < n ∧ f 2 = 120
    · rw [if_pos h3] at h hj
      by_cases q : j < 3
      · have : j = 0 ∨ j = 1 ∨ j = 2 := by omega
        rcases this with rfl | rfl | rfl <;> omega
      · exact rn_no60 (.inr ⟨rfl, rfl⟩) _ _ _ h j (by omega) hj
    · rw [if_neg h3] at h hj
      by_cases q : j < 2
      · have : j = 0 ∨ j = 1 := by omega
        rcases this with rfl | rfl <;> omega
      · exact rn_no60 (.inl ⟨rfl, rfl⟩) _ _ _ h j (by omega) hj
theorem pr_none : ∀ (k : Nat) (l acc : List UInt8), l.length < k → 60 ∈ l → pr k l acc = none
  | 0, _, _, h, _ => absurd h (Nat.not_lt_zero _)
  | _ + 1, [], _, _, h => by cases h
  | k + 1, x :: r, acc, hk, h => by
    unfold pr
    by_cases hx : x = 60
    · rw [if_pos hx]
    · rw [if_neg hx]
      have hr : 60 ∈ r := by
        rcases List.mem_cons.1 h with q | q
        · exact absurd q.symm hx
        · exact q
      simp only [List.length_cons] at hk
      by_cases h38 : x = 38
      · rw [if_pos h38]
        by_cases h0 : (rd (lfn (x :: r)) (x :: r).length).2.2 = 0
        · rw [if_pos h0]
          have h4 := rd_four (lfn_lt (x :: r)) h0
          have hno := rd_no60 h0
          obtain ⟨K, hK⟩ : ∃ K, (rd (lfn (x :: r)) (x :: r).length).2.1 = K := ⟨_, rfl⟩
          rw [hK] at h4 hno ⊢
          have hlen : (x :: r).length = r.length + 1 := List.length_cons
          refine pr_none k _ _ (by rw [List.length_drop, hlen]; omega) ?_
          obtain ⟨i, hi, hg⟩ := List.getElem_of_mem h
          have hge : K ≤ i := by
            by_cases q : i < K
            · have := hno i q
              rw [lfn_get _ i hi, hg] at this
              exact absurd rfl this
            · omega
          rw [List.mem_iff_getElem]
          refine ⟨i - K, by rw [List.length_drop]; omega, ?_⟩
          rw [List.getElem_drop]
          simp only [show K + (i - K) = i by omega]
          exact hg
        · rw [if_neg h0]
      · rw [if_neg h38]
        exact pr_none k r _ (by omega) hr
/-- a reference's character is one -/
theorem rn_scal {f : Nat → Nat} {base c : Nat} : ∀ (k a v : Nat), (rn f base c k a v).2.2 = 0 → ¬ (55296 ≤ (rn f base c k a v).1 ∧ (rn f base c k a v).1 ≤ 57343)
  | 0, _, _, h => by cases h
  | k + 1, a, v, h => by
    rw [rn_succ] at h ⊢
    by_cases q : isD c (f a) = true
    · rw [if_pos q] at h ⊢
      by_cases p : 1114111 < v * base + dv (f a)
      · rw [if_pos p] at h; cases h
      · rw [if_neg p] at h ⊢
        exact rn_scal k (a + 1) _ h
    · rw [if_neg q] at h ⊢
      by_cases p : f a = 59 ∧ Ch.isT Ch.tab 0 (v : Int) = true
      · rw [if_pos p]
        have := p.2
        rw [isT0] at this
        simp only [decide_eq_true_eq] at this
        dsimp only
        omega
      · rw [if_neg p] at h; cases h
theorem rd_scal {f : Nat → Nat} {n : Nat} (h : (rd f n).2.2 = 0) : ¬ (55296 ≤ (rd f n).1 ∧ (rd f n).1 ≤ 57343) := by
  unfold rd at h ⊢
  split
  · next q => rw [if_pos q] at h; cases h
  · next q =>
    rw [if_neg q] at h
    split
    · next p => rw [if_pos p] at h; cases h
    · next p =>
      rw [if_neg p] at h
      split
      · next r =>
        rw [if_pos r] at h
        rcases nm_ways f n with ⟨e, he, _, z, _⟩ | ⟨_, _, z⟩ | ⟨_, _, z⟩
        · rw [z]
          have := (nm_len he).2
          dsimp only
          omega
        · rw [z] at h; cases h
        · rw [z] at h; cases h
      · next r =>
        rw [if_neg r] at h
        unfold rdN at h ⊢
        split
        · next t => rw [if_pos t] at h; exact rn_scal _ _ _ h
        · next t => rw [if_neg t] at h; exact rn_scal _ _ _ h
theorem pln_pr (l : List UInt8) : pln l = if tx5 l = true then pr (l.length + 1) l [] else none := by
  unfold pln
  by_cases h : tx5 l = true
  · rw [if_pos h]
    by_cases q : 60 ∈ l
    · rw [if_neg (fun p => p.2 q), pr_none _ _ _ (by omega) q]
    · rw [if_pos ⟨h, q⟩, pr_eq _ _ _ q]
  · rw [if_neg (fun p => h p.1), if_neg h]
/-- the document's bytes of a character are those of Go -/
theorem rb_enc {v : Nat} (h : v ≤ 1114111) (hs : ¬ (55296 ≤ v ∧ v ≤ 57343)) : Rn.arr (Ch.rb v) (Ch.rl v) = ⟨(Lib.encodeRune (v : Int)).toArray⟩ := by
  have hE := Rn.eb_enc (v : Int)
  have hw : (Rn.want (v : Int)).toNat = v := by unfold Rn.want; rw [if_neg (by omega)]; rfl
  rw [hw] at hE
  obtain ⟨h1, h2⟩ := Ch.rb_of_enc hE
  have e : Rn.arr (Ch.rb v) (Ch.rl v) = Rn.arr (Rf.lfn (Lib.encodeRune (v : Int))) (Lib.encodeRune (v : Int)).length := by
    have hl : (Lib.encodeRune (v : Int)).length = Rn.el (v : Int) := by unfold Lib.encodeRune Rn.el; rw [List.length_map]
    rw [h1, hl]
    have e2 : (Rn.arr (Ch.rb v) (Rn.el (v : Int))).data = (Rn.arr (Rf.lfn (Lib.encodeRune (v : Int))) (Rn.el (v : Int))).data := by
      apply Array.ext
      · simp [Rn.arr]
      · intro i g1 g2
        have hi : i < Rn.el (v : Int) := by simpa [Rn.arr] using g1
        have := h2 i hi
        simp only [Rn.arr, Array.getElem_ofFn]
        rw [this, show Rf.lfn (Lib.encodeRune (v : Int)) i = Rn.eb (v : Int) i from Rn.enc_get (v : Int) i]
    exact congrArg ByteArray.mk e2
  rw [e, arr_lfn]
end Rf

set_option maxRecDepth 100000 in
set_option maxHeartbeats 1000000 in
theorem ref5Plain_any (l : List UInt8) (w : World) (hl : l.length ≤ 140737488351232) :
    Calls Tryd.prog 17 #[.string ⟨l.toArray⟩] w fun e w' => e = .returned (Rf.plV (Rf.pln l)) ∧ Below w.heap.size w w' := by
  have cT := refTexts_any (Rf.lfn l) l.length w (Rf.lfn_lt l) (by omega)
  rw [Ch.V_zero, arr_lfn, show (Ch.allFrom (Rf.lfn l) l.length 0 l.length 0 0 && Ch.valid (Rf.lfn l) l.length) = Rf.tx5 l from rfl] at cT
  rw [Rf.pln_pr]
  cases htx : Rf.tx5 l
  · rw [if_neg (by decide)]
    rw [htx] at cT
    clear htx
    go_enter Tryd.func17, Tryd.ntmps17
    go_wp2_with fail
    refine cT.mono ?_
    rintro e w1 ⟨rfl, hb1⟩
    clear cT
    go_wp2
    refine bodyPost_ret (v := Rf.plV none) (by simp [Rf.plV, results, Tryd.results17, go_sem]) rfl ⟨rfl, hb1⟩
  · rw [if_pos rfl]
    rw [htx] at cT
    obtain ⟨n, hn⟩ : ∃ n, l.length = n := ⟨_, rfl⟩
    obtain ⟨R, hR⟩ : ∃ R, Rf.pr (l.length + 1) l [] = R := ⟨_, rfl⟩
    rw [hR]
    have HR := hide' hR
    clear htx hR
    go_enter Tryd.func17, Tryd.ntmps17
    go_wp2_with fail
    refine cT.mono ?_
    rintro e w1 ⟨rfl, hb1⟩
    clear cT
    go_wp2
    go_loopw [4, 5] (fun out i wr => ∃ (o k : Nat) (acc : List UInt8), out = .string ⟨acc.toArray⟩ ∧ i = .int .i64 o ∧ o ≤ n ∧ Hid (n - o < k ∧ Rf.pr k (l.drop o) acc = R) ∧ acc.length ≤ o ∧ Below w.heap.size w wr) (fun _ i _ => n - (RowKit.intOf i).toNat)
    case atStart => exact ⟨0, n + 1, [], rfl, rfl, Nat.zero_le _, ⟨by omega, by rw [← hn]; exact HR.out⟩, Nat.le_refl _, hb1⟩
    case round =>
      clear hb1 HR
      obtain ⟨o, k, acc, rfl, rfl, hon, hpa, hacc, hB⟩ := hrel
      by_cases hlt : o < n
      · have g1 : (o : Int) < n := by omega
        have hol : o < l.length := by omega
        obtain ⟨x, hx⟩ : ∃ x, l[o]'hol = x := ⟨_, rfl⟩
        have hix : ∀ h : o < (ByteArray.mk l.toArray).size, (ByteArray.mk l.toArray)[o]'h = x := fun h => strIndex l o hol x hx h
        obtain ⟨k', rfl⟩ : ∃ k', k = k' + 1 := ⟨k - 1, by have := hpa.out.1; omega⟩
        have hdr : l.drop o = x :: l.drop (o + 1) := by rw [List.drop_eq_getElem_cons hol, hx]
        have hstep := hpa.out.2
        rw [hdr] at hstep
        unfold Rf.pr at hstep
        rw [← hdr] at hstep
        have hdl : (l.drop o).length = n - o := by rw [List.length_drop]; omega
        rw [hdl] at hstep
        have hko := hpa.out.1
        by_cases h60 : x = 60
        · rw [if_pos h60] at hstep
          have e60 : ((x.toNat : Int) == 60) = true := by rw [h60]; decide
          have HST := hide' hstep
          clear hstep hpa hdr hdl hx h60
          go_wp2
          refine bodyPost_ret (v := Rf.plV none) (by simp [Rf.plV, results, Tryd.results17, go_sem]) rfl ⟨by rw [HST.out], hB⟩
        · rw [if_neg h60] at hstep
          have e60 : ((x.toNat : Int) == 60) = false := by
            simp only [beq_eq_false_iff_ne, ne_eq]
            intro e
            exact h60 (UInt8.toNat_inj.1 (show x.toNat = 60 by omega))
          by_cases h38 : x = 38
          · rw [if_pos h38] at hstep
            have e38 : ((x.toNat : Int) != 38) = false := by rw [h38]; decide
            have hexo : (ByteArray.mk l.toArray).extract o n = ⟨(l.drop o).toArray⟩ := by rw [strExtract, List.take_of_length_le (by rw [hdl]; omega)]
            obtain ⟨cap, W, hrun, hc1, hc2, hby, hbw, hsw⟩ := rfConv (l.drop o) wr (by rw [hdl]; omega)
            have hBW := hB.trans (hbw.mono hB.size)
            rw [hdl] at hrun hby hc1
            have hA : ArgS W (Rf.lfn (l.drop o)) (n - o) (.slice (some ⟨wr.heap.size, 0, none⟩) (n - o) cap) := .some ⟨wr.heap.size, 0, none⟩ cap hc1 hc2 (fun j hj => by rw [Addr.add_lit]; exact hby j hj) (fun _ => ⟨_, _, rfl⟩)
            have cR := ref5Read_any W (Rf.lfn_lt (l.drop o)) (by omega) hA
            have hfine := Rf.rd_fine (Rf.lfn (l.drop o)) (n - o)
            have h4 := Rf.rd_four (Rf.lfn_lt (l.drop o)) (n := n - o)
            have hsc := Rf.rd_scal (f := Rf.lfn (l.drop o)) (n := n - o)
            obtain ⟨X, hX⟩ : ∃ X, Rf.rd (Rf.lfn (l.drop o)) (n - o) = X := ⟨_, rfl⟩
            rw [hX] at cR hfine h4 hstep hsc
            obtain ⟨x1, x2, x3⟩ := X
            dsimp only at h4 hstep hsc
            unfold Rf.rdI at cR
            dsimp only at cR
            have hst2 : x3 = 0 → Rf.pr k' (l.drop (o + x2)) (acc ++ Lib.encodeRune (x1 : Int)) = R := fun h => by rw [if_pos h, List.drop_drop] at hstep; exact hstep
            have hst3 : x3 ≠ 0 → R = none := fun h => by rw [if_neg h] at hstep; exact hstep.symm
            have HST2 := hide' hst2
            have HST3 := hide' hst3
            generalize l.drop o = LD at *
            have s1 : (0 : Int) ≤ (o : Int) := by omega
            clear hstep hst2 hst3 hpa hdr hX h38 h60 hx hdl hA hby hbw
            go_wp2_with fail
            refine cR.mono ?_
            rintro e w3 ⟨rfl, hb3⟩
            have hB3 := hBW.trans (hb3.mono hBW.size)
            clear cR hb3 hBW hrun
            by_cases h0 : x3 = 0
            · have hx4 := h4 h0
              have hfx : x2 ≤ n - o ∧ x1 ≤ 1114111 := by
                rcases hfine with q | q | q
                · cases q; cases h0
                · have := q.1; dsimp only at this; omega
                · exact ⟨q.2.1, q.2.2⟩
              have e0 : ((x3 : Int) != 0) = false := by simp; omega
              have cB := refBytes_any x1 w3 hfx.2
              have hel := encLe (x1 : Int)
              have henc := Rf.rb_enc hfx.2 (hsc h0)
              have hsze : (Lib.encodeRune (x1 : Int)).length = Ch.rl x1 := by
                have h9 := congrArg ByteArray.size henc
                rw [Rn.arr_size] at h9
                rw [h9]
                simp [ByteArray.size]
              have hrlt := Ch.rb_lt x1 hfx.2
              have HST := hide' (HST2.out h0)
              clear h0 h4 hfine hsc HST3
              go_wp2_with fail
              refine cB.mono ?_
              rintro e w4 ⟨rfl, hby4, hb4⟩
              have hB4 := hB3.trans (hb4.mono hB3.size)
              have htx := (ArgS.some (w := w4) (f := Ch.rb x1) (n := Ch.rl x1) ⟨w3.heap.size, 0, none⟩ (Ch.rl x1) (Nat.le_refl _) (by unfold maxLen; omega) (fun j hj => by rw [Addr.add_lit]; exact hby4 j hj) (fun _ => ⟨_, _, rfl⟩)).text hrlt
              rw [henc] at htx
              have happ := strAppend acc (Lib.encodeRune (x1 : Int))
              generalize Lib.encodeRune (x1 : Int) = E at *
              have g4 : acc.length + E.length ≤ 9223372036854775807 := by omega
              clear cB hby4 hb4 hB3 henc
              go_wp2
              exact ⟨⟨o + x2, k', acc ++ E, rfl, by go_num, by omega, ⟨by omega, HST.out⟩, by rw [List.length_append]; omega, hB4⟩, by simp [RowKit.intOf]; omega⟩
            · have e0 : ((x3 : Int) != 0) = true := by simp; omega
              have HST := hide' (HST3.out h0)
              clear h0 h4 hfine hsc HST2 HST3
              go_wp2
              refine bodyPost_ret (v := Rf.plV none) (by simp [Rf.plV, results, Tryd.results17, go_sem]) rfl ⟨by rw [HST.out], hB3⟩
          · rw [if_neg h38] at hstep
            have e38 : ((x.toNat : Int) != 38) = true := by
              simp only [bne_iff_ne, ne_eq]
              intro e
              exact h38 (UInt8.toNat_inj.1 (show x.toNat = 38 by omega))
            have hexo : (ByteArray.mk l.toArray).extract o (o + 1) = ⟨[x].toArray⟩ := by
              rw [strExtract, show o + 1 - o = 1 by omega, hdr]
              rfl
            have happ := strAppend acc [x]
            have g4 : acc.length + 1 ≤ 9223372036854775807 := by omega
            have HST := hide' hstep
            clear hstep hpa hdr h38 h60 hx hdl
            go_wp2
            go_roundw
            case rel => exact ⟨o + 1, k', acc ++ [x], rfl, by go_num, by omega, ⟨by omega, HST.out⟩, by rw [List.length_append]; simp only [List.length_cons, List.length_nil]; omega, hB⟩
            case measure => simp [RowKit.intOf]; omega
      · obtain rfl : o = n := by omega
        have g1 : ¬ (o : Int) < o := by omega
        have hfin : R = some acc := by
          obtain ⟨q1, q2⟩ := hpa.out
          rw [List.drop_eq_nil_of_le (by omega)] at q2
          obtain ⟨k', rfl⟩ : ∃ k', k = k' + 1 := ⟨k - 1, by omega⟩
          rw [← q2]
          rfl
        have HF := hide' hfin
        clear hfin hpa
        go_wp2
        refine bodyPost_ret (v := Rf.plV (some acc)) (by simp [Rf.plV, results, Tryd.results17, go_sem]) rfl ⟨by rw [HF.out], hB⟩
end Go.Proofs.YtbbbokkfhfmoeaaDoor
/-
  THE WALK over gimletlaw05.RefsPlains.
-/
namespace Go.Proofs.YtbbbokkfhfmoeaaDoor
open Go.RowKit Go.Lib

set_option maxHeartbeats 1000000 in
theorem lawPlains_any (l : List UInt8) (w : World) (hS : Spans w) (hT : Lib.Utf8Tabs 1 2 w) (hl : l.length ≤ 140737488351232) :
    Calls Tryd.prog 5 #[.string ⟨l.toArray⟩] w fun e w' => e = .returned (.bool true) ∧ Below w.heap.size w w' := by
  have c1 := plain_any l w hS hT hl
  have c2 := fun W => ref5Plain_any l W hl
  have c3 := fun W (hb : Below w.heap.size w W) => rfFixed_any W (hS.below hb (Nat.le_refl _))
  clear hS hT
  generalize Rf.pln l = P at *
  cases P with
  | none =>
    simp only [Rf.plV] at c1 c2
    go_enter Tryd.func5, Tryd.ntmps5
    go_wp2_with fail
    refine c1.mono ?_
    rintro e w1 ⟨rfl, hb1⟩
    have c2' := c2 w1
    clear c1 c2
    go_wp2_with fail
    refine c2'.mono ?_
    rintro e w2 ⟨rfl, hb2⟩
    have hB2 := hb1.trans (hb2.mono hb1.size)
    have c3' := c3 w2 hB2
    clear c2' c3 hb1 hb2
    go_wp2_with fail
    refine c3'.mono ?_
    rintro e w3 ⟨rfl, hb3⟩
    clear c3'
    go_wp2
    go_ret
    exact ⟨rfl, hB2.trans (hb3.mono hB2.size)⟩
  | some t =>
    simp only [Rf.plV] at c1 c2
    go_enter Tryd.func5, Tryd.ntmps5
    go_wp2_with fail
    refine c1.mono ?_
    rintro e w1 ⟨rfl, hb1⟩
    have c2' := c2 w1
    clear c1 c2
    go_wp2_with fail
    refine c2'.mono ?_
    rintro e w2 ⟨rfl, hb2⟩
    have hB2 := hb1.trans (hb2.mono hb1.size)
    have c3' := c3 w2 hB2
    clear c2' c3 hb1 hb2
    go_wp2_with fail
    refine c3'.mono ?_
    rintro e w3 ⟨rfl, hb3⟩
    clear c3'
    go_wp2
    go_ret
    exact ⟨rfl, hB2.trans (hb3.mono hB2.size)⟩
end Go.Proofs.YtbbbokkfhfmoeaaDoor
/-
  PROVED: 'gimletlaw05.RefsPlains' returns true at every text, and its argument stays (the card RefsPlainsCardSaid). The conditions: utf8's two tables and the program's table of ranges start as the program's text lays them (the card ties them).
-/
namespace Go.Proofs.YtbbbokkfhfmoeaaDoor
open Go.RowKit Go.Shelf Go.Lib
open Go.ChangeShapes Go.WideShapes Go.ChangeAt

set_option maxRecDepth 100000 in
theorem rfplains_lifted (os : Os) (started : os.Started) (H : Type) (enc : TypeId × Value → H) :
    ReturnsInHanded {} Tryd.checked os 5 .any (fun w args => (Rows.refsPlainsSpec.pre enc Tryd.prog Tryd.f5 [] false w args ∧ laidMetH Tryd.prog Rows.refsPlainsRow.laid w) ∧ sizedMet enc Tryd.prog Tryd.f5 (OpenSpec.ofChange Rows.refsPlainsSpec) false w args)
      (Rows.refsPlainsSpec.post enc Tryd.prog Tryd.f5 false true false false) := by
  refine returnsInHanded_of_change_and (C := Tryd.checked) (X := fun w _ => laidMetH Tryd.prog Rows.refsPlainsRow.laid w) (fun _ _ _ hh h => h.of_heap hh) own started (by kernel_rfl) Tryd.func5
    (ChangeSpec.witness_shaped (enc := enc) (C := Tryd.checked) (os := os) (X := fun w _ => laidMetH Tryd.prog Rows.refsPlainsRow.laid w) false (World.laidAll Tryd.prog os theLaid) #[.string ⟨#[]⟩] 8 (World.laidAll_os _ _ _)
      (laid_shaped os _) (by kernel_rfl) (by kernel_rfl) (by kernel_rfl) (laid_holds os _)) ?_
  intro W base args ds gs before hval0 hW _ hsz hL _
  have hval : ∀ (j : Nat) t v, Tryd.f5.params[j]? = some t → args[j]? = some v → Value.okWide Tryd.prog W .any base t v := hval0
  have hW' := hW
  obtain ⟨p, q, hA0, hV, rfl, _, _⟩ := hW
  have hA : DataW.TrodAll enc Tryd.prog W 0 (fun _ => true) true Tryd.f5.params.toList args.toList ds p := hA0
  rw [Tryd.params5] at hA hval
  obtain ⟨v0, d0, rfl, rfl, h0⟩ := trodAll_one hA
  obtain ⟨rfl, rfl⟩ := trodVars_none hV
  obtain ⟨s0, rfl, rfl, rfl, ws0⟩ := ChangeMaps.open_string Tryd.underlying9 (hval 0 9 v0 rfl rfl) h0
  simp only [List.append_nil] at hW'
  obtain ⟨hT, hS⟩ := tabs_of_laid hL
  have hz : s0.data.toList.length ≤ reachBytes := sized_string hsz (j := 0) (t := 9) (bytes := s0.data.toList) rfl rfl
  unfold reachBytes at hz
  have hc := lawPlains_any s0.data.toList W hS hT (by omega)
  refine hc.mono fun e W' ⟨he, hb⟩ => ?_
  subst he
  exact ⟨_, rfl, _, _, _, [], [], [], hW', trodAll_mk1 (shut_bool Tryd.underlying4 _), trodAll_mk1 (ChangeMaps.shut_string Tryd.underlying9 ws0), rfl, hb.frame _, fun h => by cases h⟩

theorem rfplains_said : Rows.RefsPlainsSaid :=
  OpenClaim.holds_of_wide 5 Tryd.f5 rfl rfl rfl rfl rfl rfl rfl ⟨rfl, rfl, rfl, rfl, rfl⟩ rfl rfl rfl rfl rfl (by kernel_rfl) Tryd.func5 (by kernel_rfl)
    (of_decide_eq_true (by kernel_rfl)) (by unfold Func.isWrapper; rw [if_neg (by decide +kernel)]; exact ⟨rfl, rfl⟩)
    (fun os started H enc _ => rfplains_lifted os started H enc)

theorem rfplains_plain (f : FuncId) (fn : Func) (hf : Tryd.pinned.checked.prog.funcNamed "gimlet/gimletlaw05.RefsPlains" = some f) (hfn : Tryd.pinned.checked.prog.funcs[f]? = some fn) :
    false = Tryd.pinned.checked.prog.looks [] ∧ ∀ (j : Nat) t, fn.params[j]? = some t → Tryd.pinned.checked.prog.wantsStandIn t = false := by
  obtain rfl : f = 5 := Option.some.inj ((show Tryd.prog.funcNamed "gimlet/gimletlaw05.RefsPlains" = some 5 by kernel_rfl).symm.trans hf) |>.symm
  obtain rfl : fn = Tryd.f5 := (Option.some.inj (Tryd.func5.symm.trans hfn)).symm
  refine ⟨by kernel_rfl, fun j t ht => ?_⟩
  rw [Tryd.params5] at ht
  have hm : t ∈ [9] := by simpa using Array.mem_of_getElem? ht
  have hall : ([9].all fun u => !Tryd.prog.wantsStandIn u) = true := by kernel_rfl
  exact (show Tryd.prog.wantsStandIn t = false by simpa using List.all_eq_true.1 hall t hm)

theorem refsPlains_card : Rows.RefsPlainsCardSaid :=
  Claim7.holds_tied_plain_at .later [] _ _ _ _ rfplains_said (fun _ h => by cases h) (by kernel_rfl) (fun _ h => by cases h) refsPlains_row_tie rfl ⟨rfl, rfl⟩ (by kernel_rfl) rfl rfplains_plain (by kernel_rfl)
#print axioms refsPlains_card
end Go.Proofs.YtbbbokkfhfmoeaaDoor
