/-
  WALKS over the document's Begins and Read.
-/
import Derived.Test.YtbbbokkfhfmoeaaDoorRfRefIs
namespace Go.Proofs.YtbbbokkfhfmoeaaDoor
open Go.RowKit Go.Lib

namespace Rf
theorem nb_le {base c : Nat} : ∀ (l : List UInt8) (v x : Nat), v ≤ 1114112 → nb base c l v = some x → x ≤ 1114112
  | [], v, x, hv, h => by cases h; exact hv
  | y :: r, v, x, hv, h => by
    rw [nb_cons] at h
    split at h
    · exact nb_le r _ x (by omega) h
    · cases h
theorem wt0 : wtR [] := by unfold wtR; decide +kernel
theorem wt1 : wtR [38] := by unfold wtR; decide +kernel
theorem wt2 : wtR [38, 35] := by unfold wtR; decide +kernel
theorem wt3 : wtR [38, 35, 120] := by unfold wtR; decide +kernel
end Rf
/-- what Begins answers -/
def BgPost (l : List UInt8) (e : Ending) : Prop := ∃ b : Bool, e = .returned (.bool b) ∧ (b = true ↔ Rf.okR l ∨ Rf.wtR l)
theorem BgPost.yes {l : List UInt8} (h : Rf.okR l ∨ Rf.wtR l) : BgPost l (.returned (.bool true)) := ⟨true, rfl, fun _ => h, fun _ => rfl⟩
theorem BgPost.no {l : List UInt8} (h1 : ¬ Rf.okR l) (h2 : ¬ Rf.wtR l) : BgPost l (.returned (.bool false)) := ⟨false, rfl, fun h => (by cases h), fun h => absurd h (fun q => q.elim h1 h2)⟩

set_option maxRecDepth 100000 in
set_option maxHeartbeats 1000000 in
theorem ref5Begins_any (l : List UInt8) (w : World) (hl : l.length ≤ 9223372036854775806) :
    Calls Tryd.prog 23 #[.string ⟨l.toArray⟩] w fun e w' => BgPost l e ∧ Below w.heap.size w w' := by
  have cI := ref5Is_any l w hl
  obtain ⟨n, hn⟩ : ∃ n, l.length = n := ⟨_, rfl⟩
  go_enter Tryd.func23, Tryd.ntmps23
  go_wp2_with fail
  refine cI.mono ?_
  rintro e w1 ⟨⟨z, ok, rfl, hok, -⟩, hb1⟩
  clear cI
  cases ok
  · have hnok : ¬ Rf.okR l := fun h => by have := hok.2 h; cases this
    have HNO := hide' hnok
    clear hok hnok
    by_cases q0 : l = []
    · have p0 : l.isEmpty = true := by simp [q0]
      have hpost : BgPost l (.returned (.bool true)) := BgPost.yes (.inr (by rw [q0]; exact Rf.wt0))
      have HPO := hide' hpost
      clear hpost q0
      go_wp2
      go_ret
      exact ⟨HPO.out, hb1⟩
    have p0 : l.isEmpty = false := by simp [q0]
    by_cases q1 : l = [38]
    · have p1 : (l == [38]) = true := by simp [q1]
      have hpost : BgPost l (.returned (.bool true)) := BgPost.yes (.inr (by rw [q1]; exact Rf.wt1))
      have HPO := hide' hpost
      clear hpost q0 q1
      go_wp2
      go_ret
      exact ⟨HPO.out, hb1⟩
    have p1 : (l == [38]) = false := by simp [q1]
    by_cases q2 : l = [38, 35]
    · have p2 : (l == [38, 35]) = true := by simp [q2]
      have hpost : BgPost l (.returned (.bool true)) := BgPost.yes (.inr (by rw [q2]; exact Rf.wt2))
      have HPO := hide' hpost
      clear hpost q0 q1 q2
      go_wp2
      go_ret
      exact ⟨HPO.out, hb1⟩
    have p2 : (l == [38, 35]) = false := by simp [q2]
    by_cases q3 : l = [38, 35, 120]
    · have p3 : (l == [38, 35, 120]) = true := by simp [q3]
      have hpost : BgPost l (.returned (.bool true)) := BgPost.yes (.inr (by rw [q3]; exact Rf.wt3))
      have HPO := hide' hpost
      clear hpost q0 q1 q2 q3
      go_wp2
      go_ret
      exact ⟨HPO.out, hb1⟩
    have p3 : (l == [38, 35, 120]) = false := by simp [q3]
    have HQ := hide' (And.intro q0 (And.intro q1 q2))
    have cN := refNames5_any w1
    clear q0 q1 q2 q3
    go_wp2_with fail
    refine cN.mono ?_
    rintro e w2 ⟨rfl, hce, hb2⟩
    have HCE := hide' hce
    have hB2 := hb1.trans (hb2.mono hb1.size)
    obtain ⟨Q0, hQ0⟩ : ∃ Q0, w1.heap.size = Q0 := ⟨_, rfl⟩
    rw [hQ0] at HCE ⊢
    clear cN hce hb1 hb2 hQ0
    go_wp2
    go_loopw [42] (fun i wr => ∃ k : Nat, i = .int .i64 k ∧ k ≤ 5 ∧ Hid (∀ j (h : j < Rf.nmT.length), j < k → ¬ (l.length < (Rf.whl (Rf.nmT[j]'h).1).length ∧ (Rf.whl (Rf.nmT[j]'h).1).take l.length = l)) ∧ wr = w2) (fun i _ => 5 - (RowKit.intOf i).toNat)
    case atStart => exact ⟨0, rfl, by omega, fun j _ h => absurd h (Nat.not_lt_zero _), rfl⟩
    case round =>
      obtain ⟨k, rfl, hk, hno, hw⟩ := hrel
      subst hw
      have hB := hB2
      by_cases hlt : k < 5
      · have g1 : (k : Int) < 5 := by omega
        have hkl : k < Rf.nmT.length := hlt
        have hcl := HCE.out k hkl
        have hin : Rf.nmT[k] ∈ Rf.nmT := List.getElem_mem hkl
        have h4 := (Rf.nm_len hin).1
        have hno2 : ¬ (l.length < (Rf.whl (Rf.nmT[k]).1).length ∧ (Rf.whl (Rf.nmT[k]).1).take l.length = l) → ∀ j (h : j < Rf.nmT.length), j < k + 1 → ¬ (l.length < (Rf.whl (Rf.nmT[j]'h).1).length ∧ (Rf.whl (Rf.nmT[j]'h).1).take l.length = l) := by
          intro hne j h hj
          by_cases q : j = k
          · subst q; exact hne
          · exact hno.out j h (by omega)
        have hyes : l.length < (Rf.whl (Rf.nmT[k]).1).length → (Rf.whl (Rf.nmT[k]).1).take l.length = l → Rf.wtR l := fun h1 h2 => Rf.pre_wt hin h1 h2
        generalize Rf.nmT[k] = e at *
        obtain ⟨P, hP⟩ : ∃ P : List UInt8, P = [38] ++ e.1 := ⟨_, rfl⟩
        obtain ⟨U, hU⟩ : ∃ U : List UInt8, U = Rf.whl e.1 := ⟨_, rfl⟩
        have ha1 : (ByteArray.mk #[38]) ++ ⟨e.1.toArray⟩ = ⟨P.toArray⟩ := by rw [hP]; exact strAppend [38] e.1
        have ha2 : (ByteArray.mk P.toArray) ++ ⟨#[59]⟩ = ⟨U.toArray⟩ := by rw [hU, hP]; exact (strAppend ([38] ++ e.1) [59]).trans (by simp [Rf.whl])
        have hlP : P.length = e.1.length + 1 := by rw [hP]; simp
        have hlU : U.length = e.1.length + 2 := by rw [hU, Rf.whl_len]
        have g2 : 1 + e.1.length ≤ 9223372036854775807 := by omega
        have g3 : P.length + 1 ≤ 9223372036854775807 := by omega
        obtain ⟨T, hT⟩ : ∃ T, U.take l.length = T := ⟨_, rfl⟩
        have hexU : (ByteArray.mk U.toArray).extract 0 n = ⟨T.toArray⟩ := by rw [strExtract, ← hT, hn]; rfl
        rw [← hU, hT, hn] at hno2 hyes
        rw [hn] at hT
        have HN2 := hide' hno2
        have HYE := hide' hyes
        obtain ⟨u, hu⟩ : ∃ u, U.length = u := ⟨_, rfl⟩
        rw [hu] at HN2 HYE
        have hnn := hn
        clear hno2 hyes hno hP hU hin hlP hT hlU
        by_cases h1 : n < u
        · have f1 : (n : Int) < (u : Int) := by omega
          by_cases h2 : T = l
          · have f2 : (T == l) = true := by simp [h2]
            have hpost : BgPost l (.returned (.bool true)) := BgPost.yes (.inr (HYE.out h1 h2))
            have HPO := hide' hpost
            clear hpost h2
            go_wp2
            go_ret
            exact ⟨HPO.out, hB⟩
          · have f2 : (T == l) = false := by simp [h2]
            have HN3 := hide' (HN2.out (fun q => h2 q.2))
            clear h2
            go_wp2
            exact ⟨⟨k + 1, by go_num, by omega, (by have h9 := HN3.out; rw [← hnn] at h9; exact h9), trivial⟩, by simp [RowKit.intOf]; omega⟩
        · have f1 : ¬ (n : Int) < (u : Int) := by omega
          have HN3 := hide' (HN2.out (fun q => h1 q.1))
          go_wp2
          exact ⟨⟨k + 1, by go_num, by omega, (by have h9 := HN3.out; rw [← hnn] at h9; exact h9), trivial⟩, by simp [RowKit.intOf]; omega⟩
      · obtain rfl : k = 5 := by omega
        have hcs : Rf.wtR l → l.take 2 = [38, 35] := fun h => by
          rcases Rf.wtR_cases h with q | q | ⟨e, he, h1, h2⟩ | q
          · exact absurd q HQ.out.1
          · exact absurd q HQ.out.2.1
          · obtain ⟨j, hj, rfl⟩ := List.getElem_of_mem he
            exact absurd ⟨h1, h2⟩ (hno.out j hj hj)
          · exact q
        clear hno HCE
        by_cases h3 : n < 3
        · have f1 : (n : Int) < 3 := by omega
          have hnw : ¬ Rf.wtR l := fun h => by
            have q := hcs h
            have h9 := congrArg List.length q
            rw [List.length_take] at h9
            simp at h9
            exact HQ.out.2.2 (by rw [← q, List.take_of_length_le (by omega)])
          have hpost : BgPost l (.returned (.bool false)) := BgPost.no HNO.out hnw
          have HPO := hide' hpost
          clear hpost hnw hcs
          go_wp2
          go_ret
          exact ⟨HPO.out, hB⟩
        · have f1 : ¬ (n : Int) < 3 := by omega
          obtain ⟨T2, hT2⟩ : ∃ T2, l.take 2 = T2 := ⟨_, rfl⟩
          have hex2 : (ByteArray.mk l.toArray).extract 0 2 = ⟨T2.toArray⟩ := by rw [strExtract, ← hT2]; rfl
          by_cases h2 : T2 = [38, 35]
          · have e2 : (T2 == [38, 35]) = true := by simp [h2]
            have h2l : 2 < l.length := by omega
            obtain ⟨y2, hy2⟩ : ∃ y2, l[2]'h2l = y2 := ⟨_, rfl⟩
            have hix2 : ∀ h : 2 < (ByteArray.mk l.toArray).size, (ByteArray.mk l.toArray)[2]'h = y2 := fun h => strIndex l 2 h2l y2 hy2 h
            have hl2 : Rf.lfn l 2 = y2.toNat := by rw [Rf.lfn_get l 2 h2l, hy2]
            obtain ⟨-, f0, f1'⟩ := Rf.take2_inv (hT2.trans h2)
            have hn' := Rf.rd_num (by omega) f0 f1'
            clear hcs hT2 h2 hy2
            by_cases hx : y2 = 120
            · have e120 : ((y2.toNat : Int) == 120) = true := by rw [hx]; decide
              have hrd : Rf.rd (Rf.lfn l) l.length = Rf.rnL 16 5 (l.drop 3) 3 0 := hn'.1 ⟨by omega, by rw [hl2, hx]; rfl⟩
              have hwt := Rf.waitL (base := 16) (c := 5) (.inr ⟨rfl, rfl⟩) (l.drop 3) 3 0 (by omega)
              rw [← hrd] at hwt
              have hexm : (ByteArray.mk l.toArray).extract 3 n = ⟨(l.drop 3).toArray⟩ := by rw [strExtract, List.take_of_length_le (by rw [List.length_drop]; omega)]
              have hdl : (l.drop 3).length ≤ 9223372036854775806 := by rw [List.length_drop]; omega
              have cM := refNumber_any (base := 16) (c := 5) (.inr ⟨rfl, rfl⟩) (l.drop 3) wr hdl
              have hnble := fun x => Rf.nb_le (base := 16) (c := 5) (l.drop 3) 0 x (by omega)
              generalize l.drop 3 = MID at *
              have v1 : (3 : Int) ≤ (n : Int) := by omega
              have HWT := hide' (show Rf.wtR l ↔ _ from hwt)
              clear hwt hrd hn' hl2 hx hdl
              cases hnb : Rf.nb 16 5 MID 0 with
              | none =>
                rw [hnb] at cM
                unfold Rf.nbV at cM
                dsimp only [Option.getD, Option.isSome] at cM
                have hpost : BgPost l (.returned (.bool false)) := ⟨false, rfl, ⟨fun h => (by cases h), fun h => by
                  rcases h with h | h
                  · exact absurd h HNO.out
                  · obtain ⟨x, q, _⟩ := HWT.out.1 h; rw [hnb] at q; cases q⟩⟩
                have HPO := hide' hpost
                clear hpost hnb hnble
                go_wp2_with fail
                refine cM.mono ?_
                rintro e w3 ⟨rfl, rfl⟩
                clear cM
                go_wp2
                go_ret
                exact ⟨HPO.out, hB⟩
              | some v =>
                rw [hnb] at cM
                have hvl := hnble v hnb
                unfold Rf.nbV at cM
                dsimp only [Option.getD, Option.isSome] at cM
                have cG := refGoesOn_any (base := 16) (.inr rfl) 2000000 v wr (by omega) (by omega)
                have hpost : BgPost l (.returned (.bool (decide (v ≤ 1114111)))) := ⟨_, rfl, ⟨fun h => .inr (HWT.out.2 ⟨v, hnb, by simpa using h⟩), fun h => by
                  rcases h with h | h
                  · exact absurd h HNO.out
                  · obtain ⟨x, q, r⟩ := HWT.out.1 h; rw [hnb] at q; cases q; simpa using r⟩⟩
                have HPO := hide' hpost
                generalize decide (v ≤ 1114111) = tt at *
                clear hpost hnb hnble hvl
                go_wp2_with fail
                refine cM.mono ?_
                rintro e w3 ⟨rfl, rfl⟩
                clear cM
                go_wp2_with fail
                refine cG.mono ?_
                rintro e w4 ⟨rfl, hb4⟩
                clear cG
                go_wp2
                go_ret
                exact ⟨HPO.out, hB.trans (hb4.mono hB.size)⟩
            · have e120 : ((y2.toNat : Int) == 120) = false := by
                simp only [beq_eq_false_iff_ne, ne_eq]
                intro e
                exact hx (UInt8.toNat_inj.1 (show y2.toNat = 120 by omega))
              have hrd : Rf.rd (Rf.lfn l) l.length = Rf.rnL 10 4 (l.drop 2) 2 0 := hn'.2 (fun q => hx (UInt8.toNat_inj.1 (by rw [← hl2]; exact q.2)))
              have hwt := Rf.waitL (base := 10) (c := 4) (.inl ⟨rfl, rfl⟩) (l.drop 2) 2 0 (by omega)
              rw [← hrd] at hwt
              have hexm : (ByteArray.mk l.toArray).extract 2 n = ⟨(l.drop 2).toArray⟩ := by rw [strExtract, List.take_of_length_le (by rw [List.length_drop]; omega)]
              have hdl : (l.drop 2).length ≤ 9223372036854775806 := by rw [List.length_drop]; omega
              have cM := refNumber_any (base := 10) (c := 4) (.inl ⟨rfl, rfl⟩) (l.drop 2) wr hdl
              have hnble := fun x => Rf.nb_le (base := 10) (c := 4) (l.drop 2) 0 x (by omega)
              generalize l.drop 2 = MID at *
              have v1 : (2 : Int) ≤ (n : Int) := by omega
              have HWT := hide' (show Rf.wtR l ↔ _ from hwt)
              clear hwt hrd hn' hl2 hx hdl
              cases hnb : Rf.nb 10 4 MID 0 with
              | none =>
                rw [hnb] at cM
                unfold Rf.nbV at cM
                dsimp only [Option.getD, Option.isSome] at cM
                have hpost : BgPost l (.returned (.bool false)) := ⟨false, rfl, ⟨fun h => (by cases h), fun h => by
                  rcases h with h | h
                  · exact absurd h HNO.out
                  · obtain ⟨x, q, _⟩ := HWT.out.1 h; rw [hnb] at q; cases q⟩⟩
                have HPO := hide' hpost
                clear hpost hnb hnble
                go_wp2_with fail
                refine cM.mono ?_
                rintro e w3 ⟨rfl, rfl⟩
                clear cM
                go_wp2
                go_ret
                exact ⟨HPO.out, hB⟩
              | some v =>
                rw [hnb] at cM
                have hvl := hnble v hnb
                unfold Rf.nbV at cM
                dsimp only [Option.getD, Option.isSome] at cM
                have cG := refGoesOn_any (base := 10) (.inl rfl) 2000000 v wr (by omega) (by omega)
                have hpost : BgPost l (.returned (.bool (decide (v ≤ 1114111)))) := ⟨_, rfl, ⟨fun h => .inr (HWT.out.2 ⟨v, hnb, by simpa using h⟩), fun h => by
                  rcases h with h | h
                  · exact absurd h HNO.out
                  · obtain ⟨x, q, r⟩ := HWT.out.1 h; rw [hnb] at q; cases q; simpa using r⟩⟩
                have HPO := hide' hpost
                generalize decide (v ≤ 1114111) = tt at *
                clear hpost hnb hnble hvl
                go_wp2_with fail
                refine cM.mono ?_
                rintro e w3 ⟨rfl, rfl⟩
                clear cM
                go_wp2_with fail
                refine cG.mono ?_
                rintro e w4 ⟨rfl, hb4⟩
                clear cG
                go_wp2
                go_ret
                exact ⟨HPO.out, hB.trans (hb4.mono hB.size)⟩
          · have e2 : (T2 == [38, 35]) = false := by simp [h2]
            have hnw : ¬ Rf.wtR l := fun h => h2 (by rw [← hT2]; exact hcs h)
            have hpost : BgPost l (.returned (.bool false)) := BgPost.no HNO.out hnw
            have HPO := hide' hpost
            clear hpost hnw hcs hT2 h2
            go_wp2
            go_ret
            exact ⟨HPO.out, hB⟩
  · have hyok : Rf.okR l := hok.1 rfl
    have hpost : BgPost l (.returned (.bool true)) := BgPost.yes (.inl hyok)
    have HPO := hide' hpost
    clear hpost hok hyok
    go_wp2
    go_ret
    exact ⟨HPO.out, hb1⟩

namespace Rf
theorem cp_cut {f : Nat → Nat} {n m : Nat} (hm : m ≤ n) : ∀ (l : List UInt8) (a : Nat), cp f n l a < m → cp f m l a = cp f n l a
  | [], a, _ => rfl
  | x :: r, a, h => by
    unfold cp at h ⊢
    by_cases q : a < n ∧ f a = x.toNat
    · rw [if_pos q] at h ⊢
      have := (cp_le f n r (a + 1)).1
      rw [if_pos ⟨by omega, q.2⟩]
      exact cp_cut hm r (a + 1) h
    · rw [if_neg q] at h ⊢
      rw [if_neg (fun p => q ⟨by omega, p.2⟩)]
theorem nm_cutH {f : Nat → Nat} {n : Nat} (h : (nm f n).2.2 = 0) : nm f (nm f n).2.1 = nm f n := by
  rcases nm_ways f n with ⟨e, he, hf, q, _⟩ | ⟨_, _, q⟩ | ⟨_, _, q⟩
  · rw [q]
    have k := cp_full f n (whl e.1) 0 (by rw [whl_len]; unfold cmn at hf; omega)
    refine nm_full he ?_
    have := cp_mk (f := f) (n := e.1.length + 2) (whl e.1) 0 (fun j hj => ⟨by rw [whl_len] at hj; omega, (k j hj).2⟩)
    unfold cmn
    rw [this, whl_len]
    omega
  · rw [q] at h; cases h
  · rw [q] at h; cases h
theorem nm_cutB {f : Nat → Nat} {n : Nat} (h : (nm f n).2.2 = 2) : nm f ((nm f n).2.1 + 1) = nm f n := by
  rcases nm_ways f n with ⟨e, he, hf, q, _⟩ | ⟨_, _, q⟩ | ⟨hno, hlt, q⟩
  · rw [q] at h; cases h
  · rw [q] at h; cases h
  · rw [q]
    dsimp only
    obtain ⟨L, hL⟩ : ∃ L, mxN f n (fun _ => false) nmT = L := ⟨_, rfl⟩
    rw [hL] at hlt ⊢
    have hc : ∀ e ∈ nmT, cmn f (L + 1) e.1 = cmn f n e.1 := fun e he => by
      have := mxN_ge f n nmT e he
      exact cp_cut (by omega) _ 0 (show cmn f n e.1 < L + 1 by omega)
    rw [nm_none (fun e he => by rw [hc e he]; exact hno e he), mxN_stay (f := f) (g := f) (n := n) (n' := L + 1) nmT hc, hL, if_neg (by omega)]
theorem rn_cutH {f : Nat → Nat} (base c : Nat) : ∀ (k a v : Nat), (rn f base c k a v).2.2 = 0 → a < (rn f base c k a v).2.1 ∧ (rn f base c k a v).2.1 ≤ a + k ∧ rn f base c ((rn f base c k a v).2.1 - a) a v = rn f base c k a v
  | 0, a, v, h => by cases h
  | k + 1, a, v, h => by
    rw [rn_succ] at h ⊢
    by_cases h1 : isD c (f a) = true
    · rw [if_pos h1] at h ⊢
      by_cases h2 : 1114111 < v * base + dv (f a)
      · rw [if_pos h2] at h; cases h
      · rw [if_neg h2] at h ⊢
        obtain ⟨i1, i2, i3⟩ := rn_cutH base c k (a + 1) _ h
        generalize rn f base c k (a + 1) (v * base + dv (f a)) = X at *
        refine ⟨by omega, by omega, ?_⟩
        rw [show X.2.1 - a = (X.2.1 - (a + 1)) + 1 by omega, rn_succ, if_pos h1, if_neg h2, i3]
    · rw [if_neg h1] at h ⊢
      by_cases h2 : f a = 59 ∧ Ch.isT Ch.tab 0 (v : Int) = true
      · rw [if_pos h2] at h ⊢
        dsimp only
        refine ⟨by omega, by omega, ?_⟩
        rw [show a + 1 - a = 0 + 1 by omega, rn_succ, if_neg h1, if_pos h2]
      · rw [if_neg h2] at h; cases h
theorem rn_cutB {f : Nat → Nat} (base c : Nat) : ∀ (k a v : Nat), (rn f base c k a v).2.2 = 2 → a ≤ (rn f base c k a v).2.1 ∧ rn f base c ((rn f base c k a v).2.1 + 1 - a) a v = rn f base c k a v
  | 0, a, v, h => by cases h
  | k + 1, a, v, h => by
    rw [rn_succ] at h ⊢
    by_cases h1 : isD c (f a) = true
    · rw [if_pos h1] at h ⊢
      by_cases h2 : 1114111 < v * base + dv (f a)
      · rw [if_pos h2]
        dsimp only
        refine ⟨by omega, ?_⟩
        rw [show a + 1 - a = 0 + 1 by omega, rn_succ, if_pos h1, if_pos h2]
      · rw [if_neg h2] at h ⊢
        obtain ⟨i1, i3⟩ := rn_cutB base c k (a + 1) _ h
        generalize rn f base c k (a + 1) (v * base + dv (f a)) = X at *
        refine ⟨by omega, ?_⟩
        rw [show X.2.1 + 1 - a = (X.2.1 + 1 - (a + 1)) + 1 by omega, rn_succ, if_pos h1, if_neg h2, i3]
    · rw [if_neg h1] at h ⊢
      by_cases h2 : f a = 59 ∧ Ch.isT Ch.tab 0 (v : Int) = true
      · rw [if_pos h2] at h; cases h
      · rw [if_neg h2]
        dsimp only
        refine ⟨by omega, ?_⟩
        rw [show a + 1 - a = 0 + 1 by omega, rn_succ, if_neg h1, if_neg h2]
/-- Have hangs on its own bytes alone -/
theorem rd_cutH {f : Nat → Nat} {n : Nat} (h : (rd f n).2.2 = 0) : rd f (rd f n).2.1 = rd f n := by
  by_cases h0 : 0 < n ∧ f 0 ≠ 38
  · unfold rd at h; rw [if_pos h0] at h; cases h
  by_cases h1 : n < 2
  · unfold rd at h; rw [if_neg h0, if_pos h1] at h; cases h
  have e0 : f 0 = 38 := by
    by_cases q : f 0 = 38
    · exact q
    · exact absurd ⟨by omega, q⟩ h0
  by_cases h2 : f 1 ≠ 35
  · have e : ∀ m, 2 ≤ m → rd f m = nm f m := fun m hm => by unfold rd; rw [if_neg (fun q => q.2 e0), if_neg (by omega), if_pos h2]
    rw [e n (by omega)] at h ⊢
    have hl : 2 ≤ (nm f n).2.1 := by
      rcases nm_ways f n with ⟨e, _, _, q, _⟩ | ⟨_, _, q⟩ | ⟨_, _, q⟩
      · rw [q]; show 2 ≤ e.1.length + 2; omega
      · rw [q] at h; cases h
      · rw [q] at h; cases h
    rw [e _ hl]
    exact nm_cutH h
  · have e : ∀ m, 2 ≤ m → rd f m = rdN f m := fun m hm => by unfold rd; rw [if_neg (fun q => q.2 e0), if_neg (by omega), if_neg h2]
    rw [e n (by omega)] at h ⊢
    unfold rdN at h ⊢
    by_cases h3 : 2 < n ∧ f 2 = 120
    · rw [if_pos h3] at h ⊢
      obtain ⟨i1, i2, i3⟩ := rn_cutH 16 5 (n - 3) 3 0 h
      generalize rn f 16 5 (n - 3) 3 0 = X at *
      rw [e _ (by omega)]
      unfold rdN
      rw [if_pos ⟨by omega, h3.2⟩]
      exact i3
    · rw [if_neg h3] at h ⊢
      obtain ⟨i1, i2, i3⟩ := rn_cutH 10 4 (n - 2) 2 0 h
      generalize rn f 10 4 (n - 2) 2 0 = X at *
      rw [e _ (by omega)]
      unfold rdN
      rw [if_neg (fun q => h3 ⟨by omega, q.2⟩)]
      exact i3
/-- Bad hangs on the bytes up to the bad one -/
theorem rd_cutB {f : Nat → Nat} {n : Nat} (h : (rd f n).2.2 = 2) : rd f ((rd f n).2.1 + 1) = rd f n := by
  by_cases h0 : 0 < n ∧ f 0 ≠ 38
  · have e : ∀ m, 0 < m → rd f m = (0, 0, 2) := fun m hm => by unfold rd; rw [if_pos ⟨hm, h0.2⟩]
    rw [e n h0.1, e _ (by omega)]
  by_cases h1 : n < 2
  · unfold rd at h; rw [if_neg h0, if_pos h1] at h; cases h
  have e0 : f 0 = 38 := by
    by_cases q : f 0 = 38
    · exact q
    · exact absurd ⟨by omega, q⟩ h0
  by_cases h2 : f 1 ≠ 35
  · have e : ∀ m, 2 ≤ m → rd f m = nm f m := fun m hm => by unfold rd; rw [if_neg (fun q => q.2 e0), if_neg (by omega), if_pos h2]
    rw [e n (by omega)] at h ⊢
    have hl : 1 ≤ (nm f n).2.1 := by
      rcases nm_ways f n with ⟨e, _, _, q, _⟩ | ⟨_, _, q⟩ | ⟨_, _, q⟩
      · rw [q] at h; cases h
      · rw [q] at h; cases h
      · rw [q]
        show 1 ≤ mxN f n (fun _ => false) nmT
        have := mxN_ge f n nmT ([97, 109, 112], 38) (by decide)
        have h9 : 1 ≤ cmn f n [97, 109, 112] := by
          show 1 ≤ cp f n (38 :: _) 0
          unfold cp
          rw [if_pos ⟨by omega, e0⟩]
          exact (cp_le f n _ 1).1
        exact Nat.le_trans h9 this
    rw [e _ (by omega)]
    exact nm_cutB h
  · have e : ∀ m, 2 ≤ m → rd f m = rdN f m := fun m hm => by unfold rd; rw [if_neg (fun q => q.2 e0), if_neg (by omega), if_neg h2]
    rw [e n (by omega)] at h ⊢
    unfold rdN at h ⊢
    by_cases h3 : 2 < n ∧ f 2 = 120
    · rw [if_pos h3] at h ⊢
      obtain ⟨i1, i3⟩ := rn_cutB 16 5 (n - 3) 3 0 h
      generalize rn f 16 5 (n - 3) 3 0 = X at *
      rw [e _ (by omega)]
      unfold rdN
      rw [if_pos ⟨by omega, h3.2⟩]
      exact i3
    · rw [if_neg h3] at h ⊢
      have hn2 : 2 < n := by
        by_cases q : 2 < n
        · exact q
        · rw [show n - 2 = 0 by omega] at h; cases h
      obtain ⟨i1, i3⟩ := rn_cutB 10 4 (n - 2) 2 0 h
      generalize rn f 10 4 (n - 2) 2 0 = X at *
      rw [e _ (by omega)]
      unfold rdN
      rw [if_neg (fun q => h3 ⟨hn2, q.2⟩)]
      exact i3
/-- one byte more: the way of the document's Read -/
theorem rd_step {f : Nat → Nat} {n i : Nat} (hi : i < n) (hw : (rd f i).2.2 = 1) :
    ((rd f (i + 1)).2.2 = 1) ∨ ((rd f (i + 1)).2.2 = 0 ∧ (rd f (i + 1)).2.1 = i + 1 ∧ rd f n = rd f (i + 1)) ∨ (¬ ((rd f (i + 1)).2.2 = 0 ∧ (rd f (i + 1)).2.1 = i + 1) ∧ (rd f (i + 1)).2.2 ≠ 1 ∧ rd f n = (0, i, 2)) := by
  by_cases h1 : (rd f (i + 1)).2.2 = 1
  · exact .inl h1
  have hst := rd_stay (f := f) (g := f) (n := i + 1) (n' := n) (fun _ _ => rfl) (by omega) h1
  rcases rd_fine f (i + 1) with q | q | q
  · rw [q] at h1; exact absurd rfl h1
  · right; right
    refine ⟨fun p => by omega, h1, ?_⟩
    have hc := rd_cutB q.1
    have hk : (rd f (i + 1)).2.1 = i := by
      by_cases p : (rd f (i + 1)).2.1 = i
      · exact p
      · have h9 : rd f i = rd f (i + 1) := by
          rw [← hc]
          refine rd_stay (f := f) (g := f) (fun _ _ => rfl) (by omega) ?_
          rw [hc]
          exact h1
        rw [h9] at hw
        exact absurd hw h1
    rw [hst]
    exact Prod.ext q.2.1 (Prod.ext hk q.1)
  · right; left
    have hc := rd_cutH q.1
    refine ⟨q.1, ?_, hst⟩
    by_cases p : (rd f (i + 1)).2.1 = i + 1
    · exact p
    · have h9 : rd f i = rd f (i + 1) := by
        rw [← hc]
        refine rd_stay (f := f) (g := f) (fun _ _ => rfl) (by omega) ?_
        rw [hc]
        exact h1
      rw [h9] at hw
      exact absurd hw h1
end Rf

/-- the answer of the document's Read -/
def Rf.rdI (x : Nat × Nat × Nat) : Value := .tuple #[.int .i64 x.1, .int .i64 x.2.1, .int .i64 x.2.2]
/-- the first k bytes, as a list -/
def Rf.fst (f : Nat → Nat) (k : Nat) : List UInt8 := (Rn.arr f k).data.toList
theorem Rf.fst_len (f : Nat → Nat) (k : Nat) : (Rf.fst f k).length = k := by simp [Rf.fst, Rn.arr]
theorem Rf.fst_lfn {f : Nat → Nat} (hf : ∀ j, f j < 256) {k j : Nat} (h : j < k) : Rf.lfn (Rf.fst f k) j = f j := by
  rw [Rf.lfn_get _ j (by rw [Rf.fst_len]; exact h)]
  simp [Rf.fst, Rn.arr]
  have := hf j
  omega
theorem Rf.fst_rd {f : Nat → Nat} (hf : ∀ j, f j < 256) (k : Nat) : Rf.rd (Rf.lfn (Rf.fst f k)) (Rf.fst f k).length = Rf.rd f k := by
  rw [Rf.fst_len]
  exact Rf.rd_congr (fun j hj => Rf.fst_lfn hf hj)
theorem Rf.fst_last {f : Nat → Nat} (hf : ∀ j, f j < 256) (k : Nat) : ((Rf.fst f (k + 1)).getLast? = some 59 ↔ f k = 59) := by
  have h1 := Rf.fst_lfn hf (show k < k + 1 by omega)
  rw [Rf.lfn_get _ k (by rw [Rf.fst_len]; omega)] at h1
  rw [List.getLast?_eq_getElem?, Rf.fst_len, show k + 1 - 1 = k by omega, List.getElem?_eq_getElem (by rw [Rf.fst_len]; omega)]
  constructor
  · intro e
    rw [← h1, Option.some.inj e]
    rfl
  · intro e
    rw [e] at h1
    exact congrArg some (UInt8.toNat_inj.1 h1)

set_option maxRecDepth 100000 in
set_option maxHeartbeats 1000000 in
theorem ref5Read_any {f : Nat → Nat} {n : Nat} {v : Value} (w : World) (hf : ∀ j, f j < 256) (hn : n ≤ 9223372036854775806) (hA : ArgS w f n v) :
    Calls Tryd.prog 10 #[v] w fun e w' => e = .returned (Rf.rdI (Rf.rd f n)) ∧ Below w.heap.size w w' := by
  have hcv : ∀ i W, i < n → Below w.heap.size w W → ∃ b o cap, v = .slice (some ⟨b, o, none⟩) n cap ∧ n ≤ cap ∧ cap ≤ maxLen ∧ (convert 22 9 (.slice (some ⟨b, o, none⟩) (i + 1) cap)).run Tryd.prog W = .ok (.string ⟨(Rf.fst f (i + 1)).toArray⟩) W ∧ W.cell? ⟨b, o + i, none⟩ = some (.int .u8 (f i)) := by
    intro i W hi hb
    cases hA with
    | nil h0 => omega
    | some ad cap h1 h2 hc hp =>
      obtain ⟨b, o, rfl⟩ := hp (by omega)
      have hcW : ∀ j, j < n → W.cell? (Addr.add ⟨b, o, none⟩ j) = some (.int .u8 (f j : Nat)) := fun j hj => (hb.cell (p := Addr.add ⟨b, o, none⟩ j) (block_lt_of_cell (hc j hj))).trans (hc j hj)
      refine ⟨b, o, cap, rfl, h1, h2, ?_, ?_⟩
      · have := (ArgS.some (w := W) (f := f) (n := i + 1) ⟨b, o, none⟩ cap (by omega) h2 (fun j hj => hcW j (by omega)) (fun _ => ⟨b, o, rfl⟩)).text hf
        rw [this]
        rfl
      · have := hcW i hi
        rw [Addr.add_lit] at this
        exact this
  obtain ⟨pa, cap, rfl, hcap, -⟩ := hA.span
  have HCV := hide' hcv
  clear hcv hA
  go_enter Tryd.func10, Tryd.ntmps10
  go_wp2
  go_loopw [5] (fun i wr => ∃ i' : Nat, i = .int .i64 i' ∧ i' ≤ n ∧ Hid ((Rf.rd f i').2.2 = 1) ∧ Below w.heap.size w wr) (fun i _ => n - (RowKit.intOf i).toNat)
  case atStart => exact ⟨0, rfl, Nat.zero_le _, rfl, Below.refl _ _⟩
  case round =>
    obtain ⟨i, rfl, hin, hw, hB⟩ := hrel
    by_cases hlt : i < n
    · have g1 : (i : Int) < n := by omega
      obtain ⟨b, o, cap', hv, hc1, hc2, hconv, hcell⟩ := HCV.out i wr hlt hB
      cases hv
      unfold maxLen at hc2
      have hcva : ∀ W, Below w.heap.size w W → (convert 22 9 (.slice (some ⟨b, o, none⟩) (i + 1) cap)).run Tryd.prog W = .ok (.string ⟨(Rf.fst f (i + 1)).toArray⟩) W := fun W hb => by
        obtain ⟨b', o', c', hv', _, _, q, _⟩ := HCV.out i W hlt hb
        cases hv'
        exact q
      have hst := Rf.rd_step hlt hw.out
      have hrl := Rf.fst_rd hf (i + 1)
      have hll := Rf.fst_len f (i + 1)
      have hla := Rf.fst_last hf i
      have cB := ref5Begins_any (Rf.fst f (i + 1)) wr (by rw [hll]; omega)
      have s1 : (0 : Int) ≤ (i : Int) + 1 := by omega
      have s2 : (i : Int) + 1 ≤ (cap : Int) := by omega
      generalize Rf.fst f (i + 1) = lk at *
      have hok : Rf.okR lk ↔ ((Rf.rd f (i + 1)).2.2 = 0 ∧ (Rf.rd f (i + 1)).2.1 = i + 1) := by unfold Rf.okR; rw [hrl, hll]
      have hwt : Rf.wtR lk ↔ (Rf.rd f (i + 1)).2.2 = 1 := by unfold Rf.wtR; rw [hrl]
      have HF := hide' (And.intro hok (And.intro hwt (And.intro hrl hla)))
      have HST := hide' hst
      have HLL := hide' hll
      have HCA := hide' hcva
      clear hst hrl hll hla hok hwt HCV hcva
      go_wp2_with fail
      refine cB.mono ?_
      rintro e w1 ⟨⟨tt, rfl, htt⟩, hb1⟩
      have hB1 := hB.trans (hb1.mono hB.size)
      clear cB
      rcases HST.out with h1 | ⟨h0, h00, hrn⟩ | ⟨hno, hn1, hrn⟩
      · have htrue : tt = true := htt.2 (.inr (HF.out.2.1.2 h1))
        subst htrue
        have hne : f i ≠ 59 := fun e => Rf.wtR_last (HF.out.2.1.2 h1) (HF.out.2.2.2.2 e)
        have hcell1 := (hb1.cell (p := ⟨b, o + i, none⟩) (block_lt_of_cell hcell)).trans hcell
        generalize f i = x at *
        have e59 : ((x : Int) == 59) = false := by simp; omega
        have HW := hide' h1
        clear htt hne hcell hb1 hconv h1
        go_wp2
        go_roundw
        case rel => exact ⟨i + 1, by go_num, by omega, HW.out, hB1⟩
        case measure => simp [RowKit.intOf]; omega
      · have hokk : Rf.okR lk := HF.out.1.2 ⟨h0, h00⟩
        have htrue : tt = true := htt.2 (.inl hokk)
        subst htrue
        have hx := HF.out.2.2.2.1 (Rf.okR_last hokk)
        have hcell1 := (hb1.cell (p := ⟨b, o + i, none⟩) (block_lt_of_cell hcell)).trans hcell
        rw [hx] at hcell1
        have hconv1 := HCA.out w1 hB1
        have cI := ref5Is_any lk w1 (by rw [HLL.out]; omega)
        clear htt hcell hb1 hconv hx
        go_wp2_with fail
        refine cI.mono ?_
        rintro e w2 ⟨⟨z, ok, rfl, -, hz⟩, hb2⟩
        have hzz := hz hokk
        rw [HF.out.2.2.1] at hzz
        have hfin : Rf.rd f n = (z, i + 1, 0) := by rw [hrn, hzz]; exact Prod.ext rfl (Prod.ext h00 h0)
        have HFI := hide' hfin
        clear cI hz hzz hfin h0 h00 hrn hokk
        go_wp2
        refine bodyPost_ret (v := Rf.rdI (z, i + 1, 0)) (by simp [Rf.rdI, results, Tryd.results10, go_sem]) rfl ⟨by rw [HFI.out], hB1.trans (hb2.mono hB1.size)⟩
      · have hfalse : tt = false := by
          cases tt
          · rfl
          · rcases htt.1 rfl with q | q
            · exact absurd (HF.out.1.1 q) hno
            · exact absurd (HF.out.2.1.1 q) hn1
        subst hfalse
        have HFI := hide' hrn
        clear htt hcell hb1 hconv hrn hno hn1
        go_wp2
        refine bodyPost_ret (v := Rf.rdI (0, i, 2)) (by simp [Rf.rdI, results, Tryd.results10, go_sem]) rfl ⟨by rw [HFI.out], hB1⟩
    · obtain rfl : i = n := by omega
      have g1 : ¬ (i : Int) < i := by omega
      have hfin : Rf.rd f i = (0, 0, 1) := Rf.rd_w hw.out
      have HFI := hide' hfin
      clear HCV hfin hw
      go_wp2
      refine bodyPost_ret (v := Rf.rdI (0, 0, 1)) (by simp [Rf.rdI, results, Tryd.results10, go_sem]) rfl ⟨by rw [HFI.out], hB⟩
end Go.Proofs.YtbbbokkfhfmoeaaDoor
