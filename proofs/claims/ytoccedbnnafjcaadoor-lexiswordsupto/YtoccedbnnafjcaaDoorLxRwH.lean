import Derived.Test.YtoccedbnnafjcaaDoorLxPrM
import Derived.Test.YtoccedbnnafjcaaDoorRnRefAt
import Derived.Deep.QuietTactic
import Derived.BigQuiet
import Derived.Test.YtoccedbnnafjcaaDoorLxRdM
import Derived.Test.YtoccedbnnafjcaaDoorRnChars
import Derived.BigGuard
/-
  The mathematics of LexisWords: the document counts characters, the program bytes.
-/
namespace Go.Proofs.YtoccedbnnafjcaaDoor
open Go.RowKit Go.Lib
namespace Lx
open Rn
open _root_.Go.Proofs.YtoccedbnnafjcaaDoor.Fd
/-- the character of number i begins at byte p -/
def Ix (f : Nat → Nat) (n i p : Nat) : Prop := p ≤ n ∧ i ≤ (chl f n).length ∧ ∃ fuel, n ≤ p + fuel ∧ (chl f n).drop i = chlFrom f n fuel p
section
variable {f : Nat → Nat} {n i p : Nat}
theorem Ix.zero (f : Nat → Nat) (n : Nat) : Ix f n 0 0 := ⟨Nat.zero_le _, Nat.zero_le _, n, by omega, rfl⟩
theorem Ix.at_ (h : Ix f n i p) (hp : p < n) : i < (chl f n).length ∧ (chl f n)[i]? = some (p, (dec (off f p) (n - p)).1, (dec (off f p) (n - p)).2) := by
  obtain ⟨h1, h2, fuel, h3, h4⟩ := h
  obtain ⟨m, rfl⟩ : ∃ m, fuel = m + 1 := ⟨fuel - 1, by omega⟩
  unfold chlFrom at h4
  rw [if_pos hp] at h4
  have h5 := congrArg (·[0]?) h4
  simp only [List.getElem?_drop, Nat.add_zero, List.getElem?_cons_zero] at h5
  exact ⟨(List.getElem?_eq_some_iff.1 h5).1, h5⟩
theorem Ix.end_ (h : Ix f n i p) (hp : ¬ p < n) : i = (chl f n).length := by
  obtain ⟨h1, h2, fuel, h3, h4⟩ := h
  rw [chlFrom_end _ _ _ _ hp] at h4
  have := List.drop_eq_nil_iff.1 h4
  omega
theorem Ix.lt_iff (h : Ix f n i p) : i < (chl f n).length ↔ p < n := by
  by_cases hp : p < n
  · exact ⟨fun _ => hp, fun _ => (h.at_ hp).1⟩
  · have := h.end_ hp
    exact ⟨fun h => by omega, fun h => absurd h hp⟩
theorem Ix.next (hf : ∀ j, f j < 256) (h : Ix f n i p) (hp : p < n) : Ix f n (i + 1) (p + (dec (off f p) (n - p)).2) := by
  have h6 := (h.at_ hp).1
  obtain ⟨h1, h2, fuel, h3, h4⟩ := h
  obtain ⟨m, rfl⟩ : ∃ m, fuel = m + 1 := ⟨fuel - 1, by omega⟩
  unfold chlFrom at h4
  rw [if_pos hp] at h4
  have q := dec_some (off f p) (n - p) (fun _ => hf _) (by omega)
  refine ⟨by omega, by omega, m, by omega, ?_⟩
  rw [← List.tail_drop, h4, List.tail_cons]
theorem Ix.one (hf : ∀ j, f j < 256) (h : Ix f n i p) (hp : p < n) (hl : f p < 128) : Ix f n (i + 1) (p + 1) := by
  have := h.next hf hp
  rw [dec_low (f := off f p) (by simpa [off] using hl)] at this
  exact this
theorem Ix.rune_lt (hf : ∀ j, f j < 256) (hp : p < n) : (dec (off f p) (n - p)).1 < 2097152 := by
  rw [dec_whole (off f p) (n - p) (fun _ => hf _) (by omega)]
  split
  · exact fv_le _ (fun _ => hf _)
  · show 65533 < 2097152; omega
end
theorem leadF_shift (f : Nat → Nat) (d m : Nat) (c : Int) : ∀ (k q : Nat), leadF (off f d) m c k q + d = leadF f (d + m) c k (d + q)
  | 0, q => by show m + d = d + m; omega
  | k + 1, q => by
    by_cases h : q < m
    · rw [leadF_step _ _ _ _ _ h, leadF_step _ _ _ _ _ (by omega), off_off, show d + m - (d + q) = m - q by omega]
      split
      · rw [leadF_shift f d m c k, Nat.add_assoc]
      · omega
    · rw [leadF_end _ _ _ _ _ h, leadF_end _ _ _ _ _ (by omega)]
      omega
/-- a class' characters from p on end at q .. -/
theorem lead_abs {f : Nat → Nat} {n p : Nat} {c : Int} (hp : p ≤ n) : p + lead (off f p) (n - p) c = leadF f n c (n - p) p := by
  have := leadF_shift f p (n - p) c (n - p) 0
  rw [show p + (n - p) = n by omega, Nat.add_zero] at this
  unfold lead
  omega
theorem leadF_fuel {f : Nat → Nat} {n : Nat} {c : Int} (hf : ∀ j, f j < 256) : ∀ (x y p : Nat), n ≤ p + x → n ≤ p + y → leadF f n c x p = leadF f n c y p
  | 0, y, p, hx, _ => by rw [leadF_end _ _ _ _ _ (by omega), leadF_end _ _ _ _ _ (by omega)]
  | x + 1, 0, p, _, hy => by rw [leadF_end _ _ _ _ _ (by omega), leadF_end _ _ _ _ _ (by omega)]
  | x + 1, y + 1, p, hx, hy => by
    by_cases h : p < n
    · have q := dec_some (off f p) (n - p) (fun _ => hf _) (by omega)
      rw [leadF_step _ _ _ _ _ h, leadF_step _ _ _ _ _ h, leadF_fuel hf x y _ (by omega) (by omega)]
    · rw [leadF_end _ _ _ _ _ h, leadF_end _ _ _ _ _ h]
/-- the end of a class' characters: one behind the other -/
def En (f : Nat → Nat) (n : Nat) (c : Int) (p : Nat) : Nat := leadF f n c (n - p) p
theorem En.go {f : Nat → Nat} {n p : Nat} {c : Int} (hf : ∀ j, f j < 256) (hp : p < n) (h : Ch.isT Ch.tab c (dec (off f p) (n - p)).1 = true) : En f n c p = En f n c (p + (dec (off f p) (n - p)).2) := by
  have q := dec_some (off f p) (n - p) (fun _ => hf _) (by omega)
  unfold En
  obtain ⟨m, hm⟩ : ∃ m, n - p = m + 1 := ⟨n - p - 1, by omega⟩
  have e : leadF f n c (n - p) p = leadF f n c (m + 1) p := by rw [hm]
  rw [e, leadF_step _ _ _ _ _ hp, if_pos h]
  exact leadF_fuel hf _ _ _ (by omega) (by omega)
theorem En.stop {f : Nat → Nat} {n p : Nat} {c : Int} (hp : p < n) (h : Ch.isT Ch.tab c (dec (off f p) (n - p)).1 = false) : En f n c p = p := by
  unfold En
  obtain ⟨m, hm⟩ : ∃ m, n - p = m + 1 := ⟨n - p - 1, by omega⟩
  have e : leadF f n c (n - p) p = leadF f n c (m + 1) p := by rw [hm]
  rw [e, leadF_step _ _ _ _ _ hp, if_neg (by rw [h]; simp)]
theorem En.end_ {f : Nat → Nat} {n p : Nat} {c : Int} (hp : ¬ p < n) : En f n c p = n := leadF_end _ _ _ _ _ hp
theorem En.abs {f : Nat → Nat} {n p : Nat} {c : Int} (hp : p ≤ n) : p + lead (off f p) (n - p) c = En f n c p := lead_abs hp
theorem En.le {f : Nat → Nat} {n p : Nat} {c : Int} (hf : ∀ j, f j < 256) (hp : p ≤ n) : p ≤ En f n c p ∧ En f n c p ≤ n := leadF_le hf _ _ hp

/-! numbers -/
theorem numF_big (f : Nat → Nat) : ∀ (k p a : Nat), 1000000 < vl f k p a → 1000000 < numF f k p a
  | 0, _, _, h => h
  | k + 1, p, a, h => by
    unfold numF
    split
    · omega
    · exact numF_big f k _ _ h
theorem num_sat (f : Nat → Nat) (k : Nat) : (1000000 < num f k ↔ 1000000 < vl f k 0 0) ∧ (vl f k 0 0 ≤ 1000000 → num f k = vl f k 0 0) := by
  refine ⟨⟨fun h => ?_, numF_big f k 0 0⟩, fun h => numF_vl f k 0 0 h⟩
  by_cases c : vl f k 0 0 ≤ 1000000
  · unfold num at h; rw [numF_vl f k 0 0 c] at h; exact h
  · omega
theorem sat_next (v d : Nat) (_hd : d ≤ 9) : min (10 * min v 1000001 + d) 1000001 = min (v * 10 + d) 1000001 := by omega

/-! signs: the document has them in another order -/
def sgd : List (List Nat) := [[47, 47], [58, 58], [33, 61], [47], [91], [93], [40], [41], [64], [46], [42], [44], [61], [60], [62]]
theorem sgd_eq (f : Nat → Nat) (n : Nat) : rdSgn f n sgd = rdSgn f n sgs := by
  unfold sgd sgs
  simp only [rdSgn, pre]
  by_cases hn : 0 < n
  · simp only [hn, true_and, Bool.and_true]
    by_cases h1 : f 0 = 47
    · simp [h1]
    by_cases h2 : f 0 = 58
    · simp [h2]
    by_cases h3 : f 0 = 33
    · simp [h3]
    simp [h1, h2, h3]
  · simp [hn]
end Lx
end Go.Proofs.YtoccedbnnafjcaaDoor
/-
  WALKS over gimletref10.signs, sign and end.
-/
namespace Go.Proofs.YtoccedbnnafjcaaDoor
open Go.RowKit Go.Lib
namespace Lx
open Rn in
theorem arr_mid (f : Nat → Nat) (n a b : Nat) (hb : b ≤ n) (hab : a ≤ b) : (arr f n).extract a b = arr (off f a) (b - a) := by
  apply ByteArray.ext
  apply Array.ext
  · simp [arr, ByteArray.extract, ByteArray.copySlice]; omega
  · intro i h1 h2
    simp [arr, ByteArray.extract, ByteArray.copySlice, off]
theorem list_ne {a b : ByteArray} (h : ¬ a = b) : (a.toList == b.toList) = false := by
  rw [beq_eq_false_iff_ne]
  intro e
  rw [ByteArray.toList_eq, ByteArray.toList_eq] at e
  exact h (ByteArray.ext (Array.toList_inj.1 e))
theorem bt_size (s : List Nat) : (bt s).size = s.length := by
  show (s.map Nat.toUInt8).toArray.size = _
  simp
open Rn in
/-- do the bytes begin with these? -/
theorem pre_iff : ∀ (s : List Nat) (f : Nat → Nat) (n : Nat), (∀ j, f j < 256) → (∀ c ∈ s, c < 256) → (pre f n s = true ↔ s.length ≤ n ∧ ∀ j (h : j < s.length), f j = s[j])
  | [], f, n, _, _ => by simp [pre]
  | c :: l, f, n, hf, hc => by
    unfold pre
    rw [Bool.and_eq_true, decide_eq_true_eq, pre_iff l (off f 1) (n - 1) (fun _ => hf _) (fun c h => hc c (by simp [h]))]
    constructor
    · rintro ⟨⟨h1, h2⟩, h3, h4⟩
      refine ⟨by simp; omega, fun j hj => ?_⟩
      cases j with
      | zero => exact h2
      | succ j =>
        have := h4 j (by simpa using hj)
        simp only [off] at this
        rw [Nat.add_comm] at this
        simpa using this
    · rintro ⟨h1, h2⟩
      have e0 := h2 0 (by simp)
      refine ⟨⟨by simp at h1; omega, by simpa using e0⟩, by simp at h1; omega, fun j hj => ?_⟩
      have := h2 (j + 1) (by simpa using hj)
      simp only [off]
      rw [Nat.add_comm 1 j]
      simpa using this
open Rn in
theorem pre_dec (s : List Nat) (f : Nat → Nat) (n : Nat) (hf : ∀ j, f j < 256) (hc : ∀ c ∈ s, c < 256) (hn : s.length ≤ n) : pre f n s = decide (arr f s.length = bt s) := by
  rw [Bool.eq_iff_iff, pre_iff s f n hf hc, decide_eq_true_eq]
  constructor
  · rintro ⟨_, h⟩
    apply ByteArray.ext
    apply Array.ext
    · simp [arr, bt]
    · intro i h1 h2
      have hi : i < s.length := by simpa [arr] using h1
      simp [arr, bt, h i hi]
  · intro e
    refine ⟨hn, fun j hj => ?_⟩
    have h1 := congrArg (fun b : ByteArray => b.data[j]?) e
    simp [arr, bt, hj] at h1
    have h2 := congrArg UInt8.toNat h1
    have := hf j
    have := hc s[j] (List.getElem_mem hj)
    simp at h2
    omega
theorem sgd_lt : ∀ s ∈ sgd, (∀ c ∈ s, c < 256) ∧ (∀ c ∈ s, c < 128) ∧ 0 < s.length ∧ s.length ≤ 2 := by decide
/-- the sign that stands there -/
def sgn (f : Nat → Nat) (n : Nat) (l : List (List Nat)) : ByteArray := (rdSgn f n l).tx
theorem rdSgn_cons (f : Nat → Nat) (n : Nat) (s : List Nat) (l : List (List Nat)) : rdSgn f n (s :: l) = if pre f n s = true then ⟨3, bt s, 0, s.length, true⟩ else rdSgn f n l := rfl
end Lx
set_option maxRecDepth 100000 in
set_option maxHeartbeats 1000000 in
theorem refSigns_any (w : World) :
    Calls Tryd.prog 68 #[] w fun e w' => e = .returned (.slice (some ⟨w.heap.size, 0, none⟩) 15 15) ∧ (∀ k s, Lx.sgd[k]? = some s → w'.cell? ⟨w.heap.size, k, none⟩ = some (.string (Lx.bt s))) ∧ Below w.heap.size w w' := by
  go_enter Tryd.func68, Tryd.ntmps68
  go_wp2
  go_ret
  refine ⟨rfl, fun k s hs => ?_, (Below.refl _ _).alloc (Nat.le_refl _) _⟩
  have hk : k < 15 := (List.getElem?_eq_some_iff.1 hs).1
  rw [Lib.cell_of_heap (Lx.heap_new w _)]
  match k, hk with
  | 0, _ => cases hs; rfl
  | 1, _ => cases hs; rfl
  | 2, _ => cases hs; rfl
  | 3, _ => cases hs; rfl
  | 4, _ => cases hs; rfl
  | 5, _ => cases hs; rfl
  | 6, _ => cases hs; rfl
  | 7, _ => cases hs; rfl
  | 8, _ => cases hs; rfl
  | 9, _ => cases hs; rfl
  | 10, _ => cases hs; rfl
  | 11, _ => cases hs; rfl
  | 12, _ => cases hs; rfl
  | 13, _ => cases hs; rfl
  | 14, _ => cases hs; rfl
set_option maxRecDepth 100000 in
set_option maxHeartbeats 4000000 in
theorem refSign_any (f : Nat → Nat) (n p : Nat) (w : World) (hf : ∀ j, f j < 256) (hp : p ≤ n) (hn : n ≤ 4611686018427387904) :
    Calls Tryd.prog 54 #[.string (Rn.arr f n), .int .i64 p] w fun e w' => e = .returned (.string (Lx.sgn (Rn.off f p) (n - p) Lx.sgd)) ∧ Below w.heap.size w w' := by
  have cS := refSigns_any w
  have hsz := Rn.arr_size f n
  go_enter Tryd.func54, Tryd.ntmps54
  go_wp2_with fail
  refine cS.mono ?_
  rintro e w1 ⟨rfl, hc, hb⟩
  have HC := hide' hc
  have HB := hide' hb
  clear cS hc hb
  go_wp2_with fail
  go_loopw [6] (fun v wr => ∃ k : Nat, v = .int .i64 k ∧ k ≤ 15 ∧ Below w1.heap.size w1 wr ∧ Lx.rdSgn (Rn.off f p) (n - p) (Lx.sgd.drop k) = Lx.rdSgn (Rn.off f p) (n - p) Lx.sgd) (fun v _ => 15 - (RowKit.intOf v).toNat)
  case atStart => exact ⟨0, rfl, Nat.zero_le _, Below.refl _ _, rfl⟩
  case round =>
    obtain ⟨k, rfl, hk, hbr, hd⟩ := hrel
    have HR := hide' hbr
    have HD := hide' hd
    clear hbr hd
    by_cases hlt : k < 15
    · have t1 : (k : Int) < 15 := by omega
      obtain ⟨s, hs⟩ : ∃ s, Lx.sgd[k]? = some s := ⟨_, List.getElem?_eq_getElem hlt⟩
      obtain ⟨s1, s2, s3, s4⟩ := Lx.sgd_lt s (List.mem_of_getElem? hs)
      have c0 := HC.out k s hs
      have c1 : wr.cell? ⟨w.heap.size, k, none⟩ = some (.string (Lx.bt s)) := (HR.out.cell (p := ⟨w.heap.size, k, none⟩) (block_lt_of_cell c0)).trans c0
      have hbs := Lx.bt_size s
      have ed : Lx.sgd.drop k = s :: Lx.sgd.drop (k + 1) := by
        obtain ⟨hk, e⟩ := List.getElem?_eq_some_iff.1 hs
        rw [List.drop_eq_getElem_cons hk, e]
      have hstep := HD.out
      rw [ed, Lx.rdSgn_cons] at hstep
      have g1 : IntKind.i64.wrap ((p : Int) + (s.length : Int)) = (p : Int) + s.length := by rw [IntKind.wrap_i64]; omega
      by_cases hle : s.length ≤ n - p
      · have g2 : (p : Int) + s.length ≤ n := by omega
        have em := Lx.arr_mid f n p (p + s.length) (by omega) (by omega)
        rw [Nat.add_sub_cancel_left] at em
        have hpre := Lx.pre_dec s (Rn.off f p) (n - p) (fun _ => hf _) s1 hle
        by_cases hq : Rn.arr (Rn.off f p) s.length = Lx.bt s
        · rw [hpre, decide_eq_true hq, if_pos rfl] at hstep
          have HS := hide' hstep
          rw [hq] at em
          clear hstep hpre ed c0 hs hq
          go_wp2_with fail
          go_quiet (fail)
          go_wp2
          go_ret
          refine ⟨?_, below_drewN (HB.out.trans (HR.out.mono HB.out.size)) nq⟩
          show _ = Ending.returned (.string (Lx.rdSgn _ _ Lx.sgd).tx)
          rw [← HS.out]
          rfl
        · rw [hpre, decide_eq_false hq, if_neg (by simp)] at hstep
          have HS := hide' hstep
          have hq2 := Lx.list_ne hq
          clear hstep hpre ed c0 hs
          go_wp2_with fail
          go_quiet (fail)
          go_wp2
          exact ⟨⟨k + 1, rfl, by omega, below_drewN HR.out nq, HS.out⟩, by simp [RowKit.intOf]; omega⟩
      · have hpre : Lx.pre (Rn.off f p) (n - p) s = false := Bool.eq_false_iff.2 (fun g => hle ((Lx.pre_iff s _ _ (fun _ => hf _) s1).1 g).1)
        rw [hpre, if_neg (by simp)] at hstep
        have HS := hide' hstep
        have g2 : decide ((p : Int) + s.length ≤ n) = false := by simp; omega
        clear hstep hpre ed c0 hs
        go_wp2_with fail
        go_quiet (fail)
        go_wp2
        exact ⟨⟨k + 1, rfl, by omega, below_drewN HR.out nq, HS.out⟩, by simp [RowKit.intOf]; omega⟩
    · have t1 : ¬ (k : Int) < 15 := by omega
      obtain rfl : k = 15 := by omega
      have e0 := HD.out
      have HE := hide' e0
      clear e0 HC HD hk hlt
      go_wp2
      go_ret
      refine ⟨?_, HB.out.trans (HR.out.mono HB.out.size)⟩
      show _ = Ending.returned (.string (Lx.rdSgn _ _ Lx.sgd).tx)
      rw [← HE.out]
      rfl
end Go.Proofs.YtoccedbnnafjcaaDoor
/-
  Classes of a name's characters; the walk over gimletref10.blank.
-/
namespace Go.Proofs.YtoccedbnnafjcaaDoor
open Go.RowKit Go.Lib
namespace Lx
theorem c2_is (r : Nat) : Ch.isT Ch.tab 2 r = true ↔ (65 ≤ r ∧ r ≤ 90 ∨ r = 95 ∨ 97 ≤ r ∧ r ≤ 122 ∨ 192 ≤ r ∧ r ≤ 214 ∨ 216 ≤ r ∧ r ≤ 246 ∨ 248 ≤ r ∧ r ≤ 767 ∨ 880 ≤ r ∧ r ≤ 893 ∨ 895 ≤ r ∧ r ≤ 8191 ∨ 8204 ≤ r ∧ r ≤ 8205 ∨ 8304 ≤ r ∧ r ≤ 8591 ∨ 11264 ≤ r ∧ r ≤ 12271 ∨ 12289 ≤ r ∧ r ≤ 55295 ∨ 63744 ≤ r ∧ r ≤ 64975 ∨ 65008 ≤ r ∧ r ≤ 65533 ∨ 65536 ≤ r ∧ r ≤ 983039) := by
  rw [Ch.isT_eq, isR_mem]
  rw [show Ch.pick Ch.tab 2 = [(65, 90), (95, 95), (97, 122), (192, 214), (216, 246), (248, 767), (880, 893), (895, 8191), (8204, 8205), (8304, 8591), (11264, 12271), (12289, 55295), (63744, 64975), (65008, 65533), (65536, 983039)] by decide]
  simp only [List.mem_cons, List.not_mem_nil, or_false, exists_eq_or_imp, exists_eq_left]
  omega
theorem c3_is (r : Nat) : Ch.isT Ch.tab 3 r = true ↔ (Ch.isT Ch.tab 2 r = true ∨ r = 45 ∨ r = 46 ∨ 48 ≤ r ∧ r ≤ 57 ∨ r = 183 ∨ 768 ≤ r ∧ r ≤ 879 ∨ r = 8255 ∨ r = 8256) := by
  rw [c2_is, Ch.isT_eq, isR_mem]
  rw [show Ch.pick Ch.tab 3 = [(45, 46), (48, 57), (65, 90), (95, 95), (97, 122), (183, 183), (192, 214), (216, 246), (248, 893), (895, 8191), (8204, 8205), (8255, 8256), (8304, 8591), (11264, 12271), (12289, 55295), (63744, 64975), (65008, 65533), (65536, 983039)] by decide]
  simp only [List.mem_cons, List.not_mem_nil, or_false, exists_eq_or_imp, exists_eq_left]
  omega
end Lx
theorem ret_iff {a b : Bool} {p : Prop} (hb : b = true ↔ p) (h : a = true ↔ p) : Ending.returned (.bool a) = .returned (.bool b) := by
  rw [show a = b from Bool.eq_iff_iff.2 (h.trans hb.symm)]
set_option maxRecDepth 100000 in
set_option maxHeartbeats 4000000 in
theorem refBlank_any (r : Nat) (w : World) :
    Calls Tryd.prog 27 #[.int .i64 r] w fun e w' => e = .returned (.bool (Ch.isT Ch.tab 1 r)) ∧ w' = w := by
  have h := Lx.c1_is r
  obtain ⟨b, hb⟩ : ∃ b, Ch.isT Ch.tab 1 r = b := ⟨_, rfl⟩
  rw [hb] at h ⊢
  have H := hide' h
  clear hb h
  go_enter Tryd.func27, Tryd.ntmps27
  go_wp2
  all_goals go_ret
  all_goals refine ⟨ret_iff H.out ?_, rfl⟩
  all_goals (simp; (try omega))
end Go.Proofs.YtoccedbnnafjcaaDoor
