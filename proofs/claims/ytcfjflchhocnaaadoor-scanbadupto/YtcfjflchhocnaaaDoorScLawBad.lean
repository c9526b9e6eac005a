/-
  THE WALK over gimletlaw06.ScanBad.
-/
import Derived.Test.YtcfjflchhocnaaaDoorScBadM
import Derived.Test.YtcfjflchhocnaaaDoorScBadM
import Derived.Test.YtcfjflchhocnaaaDoorScAwake
namespace Go.Proofs.YtcfjflchhocnaaaDoor
open Go.RowKit Go.Lib
namespace Sc
theorem ArgS.of_own {w : World} {b n : Nat} {v : Value} {F : Nat → Nat} (h : w.ownsRow b 5 1 v n (bs F n)) : ArgS w F n v := by
  rcases h.2 with ⟨e, e2⟩ | ⟨q, c, cur, e, _, _, h1, h2, _⟩
  · subst e
    exact .nil e2
  · have hc : ∀ j, j < n → w.cell? ((⟨q, 0, none⟩ : Addr).add j) = some (.int .u8 (F j : Nat)) := fun j hj => World.ownsRow.cells h (g := q) (by rw [e]; rfl) j _ (by simp [bs, hj])
    subst e
    exact .some ⟨q, 0, none⟩ c h1 h2 hc (fun _ => ⟨q, 0, rfl⟩)
def cat2 (f g : Nat → Nat) (k : Nat) : Nat → Nat := fun j => if j < k then f j else g (j - k)
theorem bs_cat2 (f g : Nat → Nat) (k m : Nat) : bs f k ++ bs g m = bs (cat2 f g k) (k + m) := by
  apply List.ext_getElem?
  intro i
  by_cases h1 : i < k
  · rw [List.getElem?_append_left (by rw [bs_length]; exact h1)]
    simp [bs, cat2, h1, show i < k + m by omega]
  · rw [List.getElem?_append_right (by rw [bs_length]; omega), bs_length]
    by_cases h2 : i - k < m
    · simp [bs, cat2, h1, h2, show i < k + m by omega]
    · rw [List.getElem?_eq_none (by rw [bs_length]; omega), List.getElem?_eq_none (by rw [bs_length]; omega)]
set_option maxRecDepth 10000 in
set_option maxHeartbeats 4000000 in
theorem lawBad_any (v v2 : Value) (f g : Nat → Nat) (n m : Nat) (w : World) (hS : Spans w) (hU : Lib.Utf8Tabs 2 3 w) (hf : ∀ j, f j < 256) (hg : ∀ j, g j < 256) (hA : ArgS w f n v) (hA2 : ArgS w g m v2) (hn : n ≤ 268435456) (hm : m ≤ 268435456) :
    Calls Tryd.prog 5 #[v, v2] w fun e w' => e = .returned (.bool true) ∧ Below w.heap.size w w' := by
  have cA := awake_any w hS hU
  have cW : ∀ (W : World) (x : Value) (F : Nat → Nat) (N : Nat) (en : Bool), Below w.heap.size w W → (∀ j, F j < 256) → ArgS W F N x → N ≤ 1073741824 → Calls Tryd.prog 9 #[x, .bool en] W (WholeE W F N en) := fun W x F N en hb hF hx hN => wholeRun_any W x F N en (hS.below hb (Nat.le_refl _)) (tabs_below hU hb (Nat.le_refl _)) hF hx hN
  have hlen : ∃ pa cap, v = .slice pa n cap := by obtain ⟨pa, cap, e, _⟩ := hA.span; exact ⟨pa, cap, e⟩
  obtain ⟨pa, cap, ev⟩ := hlen
  subst ev
  have CA := hide' cA
  have CW := hide' cW
  have HA := hide' hA
  have HA2 := hide' hA2
  have HF := hide' hf
  have HG := hide' hg
  have HN := hide' hn
  have HM := hide' hm
  clear cA cW hS hU hA hA2 hf hg hn hm
  go_enter Tryd.func5, Tryd.ntmps5
  go_wp2_with fail
  refine CA.out.mono ?_
  rintro e w1 ⟨rfl, hb1⟩
  have cW1 := CW.out w1 (.slice pa n cap) f n true hb1 HF.out (HA.out.below hb1 (Nat.le_refl _)) (by have := HN.out; omega)
  have CW1 := hide' cW1
  have HB1 := hide' hb1
  clear cW1 hb1 CA
  go_wp2_with fail
  refine CW1.out.mono ?_
  rintro e w2 ⟨Q, D, R, tk, op, V, u, how, p, rfl, hD, hSt, hb2⟩
  have hB2 : Below w.heap.size w w2 := HB1.out.trans (hb2.mono HB1.out.size)
  have c1 := hD.c 1 (.int .i64 (how : Nat)) rfl
  have c2 := hD.c 2 (.int .i64 (p.1 : Nat)) rfl
  have hst := stop_how hSt.math
  have HB2 := hide' hB2
  clear hD hSt hb2 hB2 CW1 HB1
  rcases hst with h3 | ⟨h2, hle, hW, hX⟩
  · subst h3
    go_wp2_with fail
    go_ret
    exact ⟨rfl, HB2.out⟩
  · subst h2
    generalize p.1 = K at hle hW hX c2
    have HW := hide' hW
    have HX := hide' hX
    have iK : IntKind.i64.wrap ((K : Int) + 1) = K + 1 := by rw [IntKind.wrap_i64]; have := HN.out; omega
    have iKn : ¬ (n : Int) < K := by omega
    have iKm : ¬ n < K := by omega
    have iK0 : (0 : Int) ≤ K := by omega
    clear hW hX
    have hA3 := HA.out.below HB2.out (Nat.le_refl _)
    cases hA3 with
    | nil _ =>
      obtain rfl : K = 0 := by omega
      have cW2 := CW.out w2 (.slice none 0 0) f 0 false HB2.out HF.out (.nil rfl) (by omega)
      have CW2 := hide' cW2
      clear cW2 hle iK iKn iKm iK0
      go_wp2_with fail
      refine CW2.out.mono ?_
      rintro e w3 ⟨Q3, D3, R3, tk3, op3, V3, u3, how3, p3, rfl, hD3, hSt3, hb3⟩
      have hB3 : Below w.heap.size w w3 := HB2.out.trans (hb3.mono HB2.out.size)
      obtain rfl := HW.out _ _ hSt3.math
      have c3 := hD3.c 1 (.int .i64 ((1 : Nat) : Int)) rfl
      have HB3 := hide' hB3
      clear hD3 hSt3 hb3 hB3 CW2 c1 c2 HB2
      go_wp2_with fail
      go_ret
      exact ⟨rfl, HB3.out⟩
    | some ad cap h1 h2 hc hp =>
      have iKc : (K : Int) ≤ cap := by omega
      have iKd : K ≤ cap := by omega
      have hAK : ArgS w2 f K (.slice (some ad) K cap) := .some ad cap iKd h2 (fun j hj => hc j (by omega)) (fun h => hp (by omega))
      have cW2 := CW.out w2 (.slice (some ad) K cap) f K false HB2.out HF.out hAK (by have := HN.out; omega)
      have CW2 := hide' cW2
      have HH1 := hide' h1
      have HH2 := hide' h2
      have HHC := hide' hc
      have HHP := hide' hp
      have HLE := hide' hle
      clear hAK cW2 h1 h2 hc hp hle
      go_wp2_with fail
      refine CW2.out.mono ?_
      rintro e w3 ⟨Q3, D3, R3, tk3, op3, V3, u3, how3, p3, rfl, hD3, hSt3, hb3⟩
      have hB3 : Below w.heap.size w w3 := HB2.out.trans (hb3.mono HB2.out.size)
      obtain rfl := HW.out _ _ hSt3.math
      have c3 := hD3.c 1 (.int .i64 ((1 : Nat) : Int)) rfl
      have HB3 := hide' hB3
      have HB23 := hide' hb3
      clear hD3 hSt3 hb3 hB3 CW2 c1 c2 HB2
      by_cases hKn : K = n
      · subst hKn
        go_wp2_with fail
        go_ret
        exact ⟨rfl, HB3.out⟩
      · have hlt : K < n := by have := HLE.out; omega
        have j0 : ((K : Int) == n) = false := by simp; omega
        have j1 : (K == n) = false := by simpa using hKn
        have j2 : (K : Int) + 1 ≤ cap := by have := HH1.out; omega
        have j3 : K + 1 ≤ cap := by have := HH1.out; omega
        have j4 : (0 : Int) ≤ (K : Int) + 1 := by omega
        have j5 : ((K : Int) + 1).toNat = K + 1 := by omega
        have hbA : Below w3.heap.size w3 (w3.alloc (.cells #[] 5)) := (Below.refl _ _).alloc (Nat.le_refl _) _
        have hAK : ArgS (w3.alloc (.cells #[] 5)) f (K + 1) (.slice (some ad) (K + 1) cap) := by
          have h := (ArgS.some (w := w2) (f := f) (n := K + 1) ad cap j3 HH2.out (fun j hj => HHC.out j (by omega)) (fun _ => HHP.out (by omega)))
          exact (h.below HB23.out (Nat.le_refl _)).below hbA (Nat.le_refl _)
        have hO := owns_none w3
        have HAK := hide' hAK
        have HO := hide' hO
        have HBA := hide' hbA
        have HLT := hide' hlt
        clear hAK hO hbA hKn hlt HH1 HH2 HHC HHP HLE iKn iKm
        go_wp2_with (at_builtin; refine append_argS rfl (.tmp 58) (.tmp 62) rfl w3.heap.size (.slice (some ⟨w3.heap.size, 0, none⟩) 0 0) (.slice (some ad) (K + 1) cap) 0 (K + 1) [] f rfl HO.out rfl HAK.out (by have := HN.out; have := HLT.out; omega) (by simp) ?_)
        intro v4 w4 hown hgrow
        have hb4 : Below w3.heap.size w3 w4 := by
          refine ⟨hgrow.os, hgrow.tape, hgrow.output, by have := hgrow.size; simp at this; omega, fun k hk => ?_⟩
          exact (hgrow.block k (by simp; omega) (by simp [Value.ownBlock]; omega)).trans (HBA.out.block k hk)
        have hA4 := (HA2.out.below HB3.out (Nat.le_refl _)).below hb4 (Nat.le_refl _)
        obtain ⟨p4, c4, e4⟩ := own_shape hown
        subst e4
        have HO4 := hide' hown
        have HA4 := hide' hA4
        have HB4 := hide' hb4
        clear hown hgrow hb4 hA4 HO HAK HBA
        go_wp2_with (at_builtin; refine append_argS rfl (.tmp 63) (.tmp 64) rfl w3.heap.size (.slice p4 (K + 1) c4) v2 (K + 1) m (bs f (K + 1)) g rfl HO4.out rfl HA4.out (by have := HN.out; have := HLT.out; have := HM.out; omega) HB4.out.size ?_)
        intro v5 w5 hown hgrow
        rw [bs_cat2] at hown
        have hlt4 : ∀ q, (Value.slice p4 (K + 1) c4).ownBlock = some q → w3.heap.size ≤ q := fun q e => (World.ownsRow.lt HO4.out q e).1
        have hb5 : Below w3.heap.size w3 w5 := by
          have h1 := HB4.out
          refine ⟨hgrow.os.trans h1.os, hgrow.tape.trans h1.tape, hgrow.output.trans h1.output, Nat.le_trans h1.size hgrow.size, fun k hk => ?_⟩
          exact (hgrow.block k (by have := h1.size; omega) (fun e => by have := hlt4 k e.symm; omega)).trans (h1.block k hk)
        have hB5 : Below w.heap.size w w5 := HB3.out.trans (hb5.mono HB3.out.size)
        have hA5 := ArgS.of_own hown
        have hF5 : ∀ j, cat2 f g (K + 1) j < 256 := fun j => by
          unfold cat2
          split
          · exact HF.out _
          · exact HG.out _
        have cW5 := CW.out w5 v5 (cat2 f g (K + 1)) (K + 1 + m) false hB5 hF5 hA5 (by have := HN.out; have := HLT.out; have := HM.out; omega)
        have CW5 := hide' cW5
        have HB5 := hide' hB5
        clear hown hgrow hlt4 hb5 hB5 hA5 hF5 cW5 HO4 HA4 HB4
        go_wp2_with fail
        refine CW5.out.mono ?_
        rintro e w6 ⟨Q6, D6, R6, tk6, op6, V6, u6, how6, p6, rfl, hD6, hSt6, hb6⟩
        have hB6 : Below w.heap.size w w6 := HB5.out.trans (hb6.mono HB5.out.size)
        obtain ⟨rfl, hp6⟩ := HX.out HLT.out (cat2 f g (K + 1)) (K + 1 + m) (by omega) (fun j hj => by unfold cat2; rw [if_pos (by omega)]) _ _ hSt6.math
        have c6 := hD6.c 1 (.int .i64 ((2 : Nat) : Int)) rfl
        have c7 := hD6.c 2 (.int .i64 (p6.1 : Nat)) rfl
        rw [hp6] at c7
        have HB6 := hide' hB6
        clear hD6 hSt6 hb6 hB6 CW5 hp6 c3
        go_wp2_with fail
        go_ret
        exact ⟨rfl, HB6.out⟩
end Sc
end Go.Proofs.YtcfjflchhocnaaaDoor
