/-
  WALKS over the document's Names, Is and Begins.
-/
import Derived.Test.YtbbbokkfhfmoeaaDoorRfRefMath
namespace Go.Proofs.YtbbbokkfhfmoeaaDoor
open Go.RowKit Go.Lib

set_option maxHeartbeats 1000000 in
theorem refNames5_any (w : World) :
    Calls Tryd.prog 39 #[] w fun e w' => e = .returned (.tuple #[.slice (some ⟨w.heap.size, 0, none⟩) 5 5, .string ⟨#[38, 60, 62, 34, 39]⟩]) ∧ (∀ k (h : k < Rf.nmT.length), w'.cell? ⟨w.heap.size, k, none⟩ = some (.string ⟨(Rf.nmT[k]'h).1.toArray⟩)) ∧ Below w.heap.size w w' := by
  have hcell : ∀ k (h : k < Rf.nmT.length), (w.alloc (.cells #[.string ⟨#[97, 109, 112]⟩, .string ⟨#[108, 116]⟩, .string ⟨#[103, 116]⟩, .string ⟨#[113, 117, 111, 116]⟩, .string ⟨#[97, 112, 111, 115]⟩] 9)).cell? ⟨w.heap.size, k, none⟩ = some (.string ⟨(Rf.nmT[k]'h).1.toArray⟩) := by
    intro k h
    have hh : (w.alloc (.cells #[.string ⟨#[97, 109, 112]⟩, .string ⟨#[108, 116]⟩, .string ⟨#[103, 116]⟩, .string ⟨#[113, 117, 111, 116]⟩, .string ⟨#[97, 112, 111, 115]⟩] 9)).heap[w.heap.size]? = some (.cells #[.string ⟨#[97, 109, 112]⟩, .string ⟨#[108, 116]⟩, .string ⟨#[103, 116]⟩, .string ⟨#[113, 117, 111, 116]⟩, .string ⟨#[97, 112, 111, 115]⟩] 9 (0, 0)) := by show (w.heap.push _)[w.heap.size]? = _; simp
    rw [Lib.cell_of_heap hh]
    have e : (#[.string ⟨#[97, 109, 112]⟩, .string ⟨#[108, 116]⟩, .string ⟨#[103, 116]⟩, .string ⟨#[113, 117, 111, 116]⟩, .string ⟨#[97, 112, 111, 115]⟩] : Array Value) = (Rf.nmT.map fun r => Value.string ⟨r.1.toArray⟩).toArray := rfl
    rw [e]
    simp [h]
  have HC := hide' hcell
  clear hcell
  go_enter Tryd.func39, Tryd.ntmps39
  go_wp2
  refine bodyPost_ret (v := .tuple #[.slice (some ⟨w.heap.size, 0, none⟩) 5 5, .string ⟨#[38, 60, 62, 34, 39]⟩]) (by simp [results, Tryd.results39, go_sem]) rfl ⟨rfl, HC.out, (Below.refl _ _).alloc (Nat.le_refl _) _⟩
namespace Rf
theorem okR_whl {e : List UInt8 × Nat} (he : e ∈ nmT) : okR (whl e.1) ∧ (rd (lfn (whl e.1)) (whl e.1).length).1 = e.2 := by
  unfold okR
  rw [name_rd e he]
  exact ⟨⟨rfl, (whl_len e.1).symm⟩, rfl⟩
theorem isT_big {x : Nat} (h : Ch.isT Ch.tab 0 (x : Int) = true) : x ≤ 1114111 := by
  rw [isT0] at h
  simp only [decide_eq_true_eq] at h
  omega
theorem okR_num {l mid : List UInt8} {base c a : Nat} (hb : Bas base c) (hd : l.drop a = mid ++ [59]) (hal : a ≤ l.length) (hr : rd (lfn l) l.length = rnL base c (l.drop a) a 0) :
    (okR l ↔ ∃ x, nb base c mid 0 = some x ∧ Ch.isT Ch.tab 0 (x : Int) = true) ∧ (okR l → nb base c mid 0 = some (rd (lfn l) l.length).1) := by
  have hlen : l.length = a + mid.length + 1 := by
    have := congrArg List.length hd
    simp at this
    omega
  have k := okL hb mid a 0 (by omega)
  have one : okR l → nb base c mid 0 = some (rd (lfn l) l.length).1 ∧ Ch.isT Ch.tab 0 ((rd (lfn l) l.length).1 : Int) = true := by
    intro h
    have := (k (rd (lfn l) l.length).1).1 (by
      rw [← hd, ← hr, ← hlen]
      obtain ⟨h1, h2⟩ := h
      rw [← h1]
      exact Prod.ext rfl (Prod.ext h2 rfl))
    exact ⟨this.1, this.2.2⟩
  refine ⟨⟨fun h => ⟨_, one h⟩, ?_⟩, fun h => (one h).1⟩
  rintro ⟨x, h1, h2⟩
  have := (k x).2 ⟨h1, isT_big h2, h2⟩
  rw [← hd, ← hr, ← hlen] at this
  unfold okR
  rw [this]
  exact ⟨rfl, rfl⟩
end Rf
/-- what Is answers -/
def IsPost (l : List UInt8) (e : Ending) : Prop := ∃ (z : Nat) (ok : Bool), e = .returned (.tuple #[.int .i64 z, .bool ok]) ∧ (ok = true ↔ Rf.okR l) ∧ (Rf.okR l → z = (Rf.rd (Rf.lfn l) l.length).1)
theorem IsPost.no {l : List UInt8} (h : ¬ Rf.okR l) : IsPost l (.returned (.tuple #[.int .i64 ((0 : Nat) : Int), .bool false])) := ⟨0, false, rfl, ⟨fun h => (by cases h), fun q => absurd q h⟩, fun q => absurd q h⟩
theorem names_chr : ∀ k (h : k < Rf.nmT.length), (([38, 60, 62, 34, 39] : List UInt8)[k]'h).toNat = (Rf.nmT[k]'h).2 := by decide

set_option maxRecDepth 100000 in
set_option maxHeartbeats 1000000 in
theorem ref5Is_any (l : List UInt8) (w : World) (hl : l.length ≤ 9223372036854775806) :
    Calls Tryd.prog 24 #[.string ⟨l.toArray⟩] w fun e w' => IsPost l e ∧ Below w.heap.size w w' := by
  have cN := refNames5_any w
  obtain ⟨n, hn⟩ : ∃ n, l.length = n := ⟨_, rfl⟩
  go_enter Tryd.func24, Tryd.ntmps24
  go_wp2_with fail
  refine cN.mono ?_
  rintro e w1 ⟨rfl, hce, hb1⟩
  have HCE := hide' hce
  clear cN hce
  go_wp2
  go_loopw [18] (fun i wr => ∃ k : Nat, i = .int .i64 k ∧ k ≤ 5 ∧ Hid (∀ j (h : j < Rf.nmT.length), j < k → l ≠ Rf.whl (Rf.nmT[j]'h).1) ∧ wr = w1) (fun i _ => 5 - (RowKit.intOf i).toNat)
  case atStart => exact ⟨0, rfl, by omega, fun j _ h => absurd h (Nat.not_lt_zero _), rfl⟩
  case round =>
    obtain ⟨k, rfl, hk, hno, rfl⟩ := hrel
    by_cases hlt : k < 5
    · have g1 : (k : Int) < 5 := by omega
      have hkl : k < Rf.nmT.length := hlt
      have hcl := HCE.out k hkl
      have hin : Rf.nmT[k] ∈ Rf.nmT := List.getElem_mem hkl
      have hchr := names_chr k hkl
      have h4 := (Rf.nm_len hin).1
      have hno2 : l ≠ Rf.whl (Rf.nmT[k]).1 → ∀ j (h : j < Rf.nmT.length), j < k + 1 → l ≠ Rf.whl (Rf.nmT[j]'h).1 := by
        intro hne j h hj
        by_cases q : j = k
        · subst q; exact hne
        · exact hno.out j h (by omega)
      have hix : ∀ h : k < (ByteArray.mk ([38, 60, 62, 34, 39] : List UInt8).toArray).size, (ByteArray.mk ([38, 60, 62, 34, 39] : List UInt8).toArray)[k]'h = ([38, 60, 62, 34, 39] : List UInt8)[k]'hkl := fun h => strIndex [38, 60, 62, 34, 39] k hkl _ rfl h
      generalize Rf.nmT[k] = e at *
      obtain ⟨y, hy⟩ : ∃ y, ([38, 60, 62, 34, 39] : List UInt8)[k]'hkl = y := ⟨_, rfl⟩
      rw [hy] at hchr
      simp only [hy] at hix
      obtain ⟨P, hP⟩ : ∃ P : List UInt8, P = [38] ++ e.1 := ⟨_, rfl⟩
      obtain ⟨U, hU⟩ : ∃ U : List UInt8, U = Rf.whl e.1 := ⟨_, rfl⟩
      have ha1 : (ByteArray.mk #[38]) ++ ⟨e.1.toArray⟩ = ⟨P.toArray⟩ := by rw [hP]; exact strAppend [38] e.1
      have ha2 : (ByteArray.mk P.toArray) ++ ⟨#[59]⟩ = ⟨U.toArray⟩ := by rw [hU, hP]; exact (strAppend ([38] ++ e.1) [59]).trans (by simp [Rf.whl])
      have hlP : P.length = e.1.length + 1 := by rw [hP]; simp
      have g2 : 1 + e.1.length ≤ 9223372036854775807 := by omega
      have g3 : P.length + 1 ≤ 9223372036854775807 := by omega
      rw [← hU] at hno2
      have HN2 := hide' hno2
      have HU := hide' hU
      have HIN := hide' hin
      have HCH := hide' hchr
      clear hno2 hno hP hU hin hy hlP hchr
      by_cases hq : l = U
      · have e1 : (l == U) = true := by simp [hq]
        have HQ := hide' hq
        have hyl : y.toNat < 256 := y.toNat_lt
        clear hq
        go_wp2
        refine bodyPost_ret (v := .tuple #[.int .i64 y.toNat, .bool true]) (by simp [results, Tryd.results24, go_sem]) rfl ⟨⟨y.toNat, true, rfl, ?_, fun _ => ?_⟩, hb1⟩
        · rw [HQ.out, HU.out]
          exact ⟨fun _ => (Rf.okR_whl HIN.out).1, fun _ => rfl⟩
        · rw [HQ.out, HU.out, (Rf.okR_whl HIN.out).2]
          exact HCH.out
      · have e1 : (l == U) = false := by simp [hq]
        have HN3 := hide' (HN2.out hq)
        clear hq
        go_wp2
        exact ⟨⟨k + 1, by go_num, by omega, HN3.out, trivial⟩, by simp [RowKit.intOf]; omega⟩
    · obtain rfl : k = 5 := by omega
      have hno5 : ¬ ∃ e ∈ Rf.nmT, l = Rf.whl e.1 := by
        rintro ⟨e, he, hle⟩
        obtain ⟨j, hj, rfl⟩ := List.getElem_of_mem he
        exact hno.out j hj hj hle
      have hcs : Rf.okR l → 4 ≤ l.length ∧ l.take 2 = [38, 35] ∧ l.getLast? = some 59 := fun h => by
        rcases Rf.okR_cases h with q | q
        · exact absurd q hno5
        · exact q
      clear hno HCE hno5
      by_cases h4 : n < 4
      · have g1 : (n : Int) < 4 := by omega
        have hnk : ¬ Rf.okR l := fun h => by have := (hcs h).1; omega
        have HK := hide' hnk
        clear hcs hnk
        go_wp2
        refine bodyPost_ret (v := .tuple #[.int .i64 ((0 : Nat) : Int), .bool false]) (by simp [results, Tryd.results24, go_sem]) rfl ⟨IsPost.no HK.out, hb1⟩
      · have g1 : ¬ (n : Int) < 4 := by omega
        obtain ⟨T2, hT2⟩ : ∃ T2, l.take 2 = T2 := ⟨_, rfl⟩
        have hex2 : (ByteArray.mk l.toArray).extract 0 2 = ⟨T2.toArray⟩ := by rw [strExtract, ← hT2]; rfl
        by_cases h2 : T2 = [38, 35]
        · have e2 : (T2 == [38, 35]) = true := by simp [h2]
          obtain ⟨m, rfl⟩ : ∃ m, n = m + 1 := ⟨n - 1, by omega⟩
          have hml : m < l.length := by omega
          obtain ⟨y, hy⟩ : ∃ y, l[m]'hml = y := ⟨_, rfl⟩
          have hix : ∀ h : m < (ByteArray.mk l.toArray).size, (ByteArray.mk l.toArray)[m]'h = y := fun h => strIndex l m hml y hy h
          have hlast : l.getLast? = some y := by rw [List.getLast?_eq_getElem?, show l.length - 1 = m by omega, List.getElem?_eq_getElem hml, hy]
          have em : ((m + 1 : Nat) : Int) - 1 = (m : Int) := by omega
          by_cases h59 : y = 59
          · have e59 : ((y.toNat : Int) != 59) = false := by rw [h59]; decide
            have h2l : 2 < l.length := by omega
            obtain ⟨y2, hy2⟩ : ∃ y2, l[2]'h2l = y2 := ⟨_, rfl⟩
            have hix2 : ∀ h : 2 < (ByteArray.mk l.toArray).size, (ByteArray.mk l.toArray)[2]'h = y2 := fun h => strIndex l 2 h2l y2 hy2 h
            have hl2 : Rf.lfn l 2 = y2.toNat := by rw [Rf.lfn_get l 2 h2l, hy2]
            obtain ⟨-, f0, f1⟩ := Rf.take2_inv (hT2.trans h2)
            have hn := Rf.rd_num (by omega) f0 f1
            have hdrop : ∀ a, a ≤ m → l.drop a = (l.drop a).take (m - a) ++ [59] := by
              intro a ha
              have e1 : (l.drop a).drop (m - a) = [59] := by
                rw [List.drop_drop, show a + (m - a) = m by omega, List.drop_eq_getElem_cons hml, hy, h59, List.drop_eq_nil_of_le (by omega)]
              rw [← e1, List.take_append_drop]
            have u1 : ¬ (m + 1 : Int) < 4 := by omega
            clear hcs hlast h59 hy hT2 h2
            by_cases hx : y2 = 120
            · have e120 : ((y2.toNat : Int) == 120) = true := by rw [hx]; decide
              have hok := Rf.okR_num (l := l) (mid := (l.drop 3).take (m - 3)) (base := 16) (c := 5) (a := 3) (.inr ⟨rfl, rfl⟩) (hdrop 3 (by omega)) (by omega) (hn.1 ⟨by omega, by rw [hl2, hx]; rfl⟩)
              have hmid0 : m = 3 → (l.drop 3).take (m - 3) = [] := fun e => by rw [e, Nat.sub_self, List.take_zero]
              have hexm : (ByteArray.mk l.toArray).extract 3 m = ⟨((l.drop 3).take (m - 3)).toArray⟩ := strExtract l 3 m
              have hmidl : ((l.drop 3).take (m - 3)).length ≤ 9223372036854775806 := by rw [List.length_take, List.length_drop]; omega
              have cM := refNumber_any (base := 16) (c := 5) (.inr ⟨rfl, rfl⟩) ((l.drop 3).take (m - 3)) wr hmidl
              generalize (l.drop 3).take (m - 3) = MID at *
              have v1 : (3 : Int) ≤ (m : Int) := by omega
              have v2 : (m : Int) ≤ (m : Int) + 1 := by omega
              have HOK := hide' hok
              have HM0 := hide' hmid0
              clear hok hmid0 hn hdrop hl2 hx hmidl
              cases hnb : Rf.nb 16 5 MID 0 with
              | none =>
                rw [hnb] at cM
                unfold Rf.nbV at cM
                dsimp only [Option.getD, Option.isSome] at cM
                have hnk : ¬ Rf.okR l := fun h => by obtain ⟨x, q, _⟩ := HOK.out.1.1 h; rw [hnb] at q; cases q
                have HK := hide' hnk
                clear hnk
                go_wp2_with fail
                refine cM.mono ?_
                rintro e w3 ⟨rfl, rfl⟩
                clear cM
                go_wp2
                refine bodyPost_ret (v := .tuple #[.int .i64 ((0 : Nat) : Int), .bool false]) (by simp [results, Tryd.results24, go_sem]) rfl ⟨IsPost.no HK.out, hb1⟩
              | some v =>
                rw [hnb] at cM
                unfold Rf.nbV at cM
                dsimp only [Option.getD, Option.isSome] at cM
                by_cases hfm : 3 < m
                · have v3 : (3 : Int) < (m : Int) := by omega
                  have cA := refAllowed_any v wr
                  have hpost : IsPost l (.returned (.tuple #[.int .i64 v, .bool (Ch.isT Ch.tab 0 (v : Int))])) := by
                    refine ⟨v, _, rfl, ⟨fun h => HOK.out.1.2 ⟨v, hnb, h⟩, fun h => ?_⟩, fun h => ?_⟩
                    · obtain ⟨x, q, r⟩ := HOK.out.1.1 h
                      rw [hnb] at q
                      cases q
                      exact r
                    · have q := HOK.out.2 h
                      rw [hnb] at q
                      exact Option.some.inj q
                  have HPO := hide' hpost
                  generalize Ch.isT Ch.tab 0 (v : Int) = tt at *
                  clear hpost hnb
                  go_wp2_with fail
                  refine cM.mono ?_
                  rintro e w3 ⟨rfl, rfl⟩
                  clear cM
                  go_wp2_with fail
                  refine cA.mono ?_
                  rintro e w4 ⟨rfl, hb4⟩
                  clear cA
                  go_wp2
                  refine bodyPost_ret (v := .tuple #[.int .i64 v, .bool tt]) (by simp [results, Tryd.results24, go_sem]) rfl ⟨HPO.out, hb1.trans (hb4.mono hb1.size)⟩
                · have v3 : ¬ (3 : Int) < (m : Int) := by omega
                  have hnk : ¬ Rf.okR l := fun h => by
                    obtain ⟨x, q, r⟩ := HOK.out.1.1 h
                    rw [HM0.out (by omega)] at q
                    cases q
                    rw [Rf.isT00] at r
                    cases r
                  have hpost : IsPost l (.returned (.tuple #[.int .i64 v, .bool false])) := ⟨v, false, rfl, ⟨fun h => (by cases h), fun h => absurd h hnk⟩, fun h => absurd h hnk⟩
                  have HPO := hide' hpost
                  clear hpost hnb hnk
                  go_wp2_with fail
                  refine cM.mono ?_
                  rintro e w3 ⟨rfl, rfl⟩
                  clear cM
                  go_wp2
                  refine bodyPost_ret (v := .tuple #[.int .i64 v, .bool false]) (by simp [results, Tryd.results24, go_sem]) rfl ⟨HPO.out, hb1⟩
            · have e120 : ((y2.toNat : Int) == 120) = false := by
                simp only [beq_eq_false_iff_ne, ne_eq]
                intro e
                exact hx (UInt8.toNat_inj.1 (show y2.toNat = 120 by omega))
              have hok := Rf.okR_num (l := l) (mid := (l.drop 2).take (m - 2)) (base := 10) (c := 4) (a := 2) (.inl ⟨rfl, rfl⟩) (hdrop 2 (by omega)) (by omega) (hn.2 (fun q => hx (UInt8.toNat_inj.1 (by rw [← hl2]; exact q.2))))
              have hmid0 : m = 2 → (l.drop 2).take (m - 2) = [] := fun e => by rw [e, Nat.sub_self, List.take_zero]
              have hexm : (ByteArray.mk l.toArray).extract 2 m = ⟨((l.drop 2).take (m - 2)).toArray⟩ := strExtract l 2 m
              have hmidl : ((l.drop 2).take (m - 2)).length ≤ 9223372036854775806 := by rw [List.length_take, List.length_drop]; omega
              have cM := refNumber_any (base := 10) (c := 4) (.inl ⟨rfl, rfl⟩) ((l.drop 2).take (m - 2)) wr hmidl
              generalize (l.drop 2).take (m - 2) = MID at *
              have v1 : (2 : Int) ≤ (m : Int) := by omega
              have v2 : (m : Int) ≤ (m : Int) + 1 := by omega
              have HOK := hide' hok
              have HM0 := hide' hmid0
              clear hok hmid0 hn hdrop hl2 hx hmidl
              cases hnb : Rf.nb 10 4 MID 0 with
              | none =>
                rw [hnb] at cM
                unfold Rf.nbV at cM
                dsimp only [Option.getD, Option.isSome] at cM
                have hnk : ¬ Rf.okR l := fun h => by obtain ⟨x, q, _⟩ := HOK.out.1.1 h; rw [hnb] at q; cases q
                have HK := hide' hnk
                clear hnk
                go_wp2_with fail
                refine cM.mono ?_
                rintro e w3 ⟨rfl, rfl⟩
                clear cM
                go_wp2
                refine bodyPost_ret (v := .tuple #[.int .i64 ((0 : Nat) : Int), .bool false]) (by simp [results, Tryd.results24, go_sem]) rfl ⟨IsPost.no HK.out, hb1⟩
              | some v =>
                rw [hnb] at cM
                unfold Rf.nbV at cM
                dsimp only [Option.getD, Option.isSome] at cM
                by_cases hfm : 2 < m
                · have v3 : (2 : Int) < (m : Int) := by omega
                  have cA := refAllowed_any v wr
                  have hpost : IsPost l (.returned (.tuple #[.int .i64 v, .bool (Ch.isT Ch.tab 0 (v : Int))])) := by
                    refine ⟨v, _, rfl, ⟨fun h => HOK.out.1.2 ⟨v, hnb, h⟩, fun h => ?_⟩, fun h => ?_⟩
                    · obtain ⟨x, q, r⟩ := HOK.out.1.1 h
                      rw [hnb] at q
                      cases q
                      exact r
                    · have q := HOK.out.2 h
                      rw [hnb] at q
                      exact Option.some.inj q
                  have HPO := hide' hpost
                  generalize Ch.isT Ch.tab 0 (v : Int) = tt at *
                  clear hpost hnb
                  go_wp2_with fail
                  refine cM.mono ?_
                  rintro e w3 ⟨rfl, rfl⟩
                  clear cM
                  go_wp2_with fail
                  refine cA.mono ?_
                  rintro e w4 ⟨rfl, hb4⟩
                  clear cA
                  go_wp2
                  refine bodyPost_ret (v := .tuple #[.int .i64 v, .bool tt]) (by simp [results, Tryd.results24, go_sem]) rfl ⟨HPO.out, hb1.trans (hb4.mono hb1.size)⟩
                · exact absurd (by omega) hfm
          · have e59 : ((y.toNat : Int) != 59) = true := by
              simp only [bne_iff_ne, ne_eq]
              intro e
              exact h59 (UInt8.toNat_inj.1 (show y.toNat = 59 by omega))
            have hnk : ¬ Rf.okR l := fun h => by have := (hcs h).2.2; rw [hlast] at this; exact h59 (Option.some.inj this)
            have HK := hide' hnk
            clear hcs hnk hlast hT2 h2 h59 hy
            go_wp2
            refine bodyPost_ret (v := .tuple #[.int .i64 ((0 : Nat) : Int), .bool false]) (by simp [results, Tryd.results24, go_sem]) rfl ⟨IsPost.no HK.out, hb1⟩
        · have e2 : (T2 == [38, 35]) = false := by simp [h2]
          have hnk : ¬ Rf.okR l := fun h => h2 (by rw [← hT2]; exact (hcs h).2.1)
          have HK := hide' hnk
          clear hcs hnk hT2 h2
          go_wp2
          refine bodyPost_ret (v := .tuple #[.int .i64 ((0 : Nat) : Int), .bool false]) (by simp [results, Tryd.results24, go_sem]) rfl ⟨IsPost.no HK.out, hb1⟩
end Go.Proofs.YtbbbokkfhfmoeaaDoor
