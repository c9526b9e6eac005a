import Derived.Test.YtcnagbkdckipnaaGreatDoorLxWords
import Derived.Test.YtcnagbkdckipnaaGreatDoorChArg
import Derived.Test.YtcnagbkdckipnaaGreatDoorAkPs
import Derived.Test.YtcnagbkdckipnaaGreatDoorLxWordE
import Derived.Test.YtcnagbkdckipnaaGreatDoorLxWord
/-
  WALKS over utf8.Valid and lexis.Words where there are no bytes; Words at any slice that came in.
-/
namespace Go.Proofs.YtcnagbkdckipnaaGreatDoor
open Go.RowKit Go.Lib
set_option maxRecDepth 1000000 in
set_option maxHeartbeats 8000000 in
theorem valid_none (pa : Option Addr) (cap : Nat) (w : World) (hm : cap ≤ maxLen) :
    Calls Tryz.prog 32 #[.slice pa 0 cap] w fun e w' => e = .returned (.bool true) ∧ w' = w := by
  have hcap : cap ≤ 9223372036854775807 := by unfold maxLen at hm; omega
  have i0 : (0 : Int) ≤ cap := by omega
  clear hm
  cases pa with
  | none =>
    go_enter Tryz.func32, Tryz.ntmps32
    go_wp2
    go_loopw [0] (fun v wx => (∃ p, v = .slice p 0 0) ∧ wx = w) (fun _ _ => 0)
    case atStart => exact ⟨⟨_, rfl⟩, rfl⟩
    case round =>
      obtain ⟨⟨p, rfl⟩, rfl⟩ := hrel
      go_wp2
      go_ret
      exact ⟨rfl, rfl⟩
  | some ad =>
    go_enter Tryz.func32, Tryz.ntmps32
    go_wp2
    go_loopw [0] (fun v wx => (∃ p, v = .slice p 0 0) ∧ wx = w) (fun _ _ => 0)
    case atStart => exact ⟨⟨_, rfl⟩, rfl⟩
    case round =>
      obtain ⟨⟨p, rfl⟩, rfl⟩ := hrel
      go_wp2
      go_ret
      exact ⟨rfl, rfl⟩
namespace Lx
theorem words_zero (f : Nat → Nat) : words f 0 = ([], none) := rfl
theorem flt_zero (f : Nat → Nat) : flt f 0 = none := rfl
theorem lead_zero (f : Nat → Nat) (c : Int) : lead f 0 c = 0 := rfl
end Lx
set_option maxRecDepth 100000 in
set_option maxHeartbeats 4000000 in
theorem words_none (f : Nat → Nat) (v : Value) (w : World) (hf : ∀ j, f j < 256) (hS : Spans w) (hv : ArgS w f 0 v) :
    Calls Tryz.prog 15 #[v] w fun e w' => Lx.WordsE f 0 w e w' := by
  obtain ⟨pa, cap, rfl, hcap⟩ : ∃ pa cap, v = .slice pa 0 cap ∧ cap ≤ maxLen := by
    cases hv with
    | nil hn => exact ⟨none, 0, rfl, Nat.zero_le _⟩
    | some ad cap h1 h2 hc hp => exact ⟨_, cap, rfl, h2⟩
  have cV := valid_none pa cap w hcap
  have hcv := hv.text hf
  have hbp := (Below.refl w.heap.size w).alloc (Nat.le_refl _) (.cells #[.int .i64 0, .int .i64 0, .int .i64 1, .int .i64 1] 31)
  have cL := leading_any f 0 1 _ hf (by omega) (hS.below hbp (Nat.le_refl _))
  rw [Lx.lead_zero] at cL
  have hsz := Rn.arr_size f 0
  clear hv hS
  go_enter Tryz.func15, Tryz.ntmps15
  go_wp2_with fail
  refine cV.mono ?_
  rintro e w1 ⟨rfl, rfl⟩
  clear cV
  go_wp2_with fail
  refine cL.mono ?_
  rintro e w2 ⟨rfl, hb2⟩
  have hb3 := hide' (hbp.trans (hb2.mono hbp.size))
  clear cL hb2 hcv hbp
  go_wp2_with fail
  go_loopw [4, 7] (fun v4 v7 wr => v4 = .slice none 0 0 ∧ v7 = .int .i64 0 ∧ wr = w2) (fun _ _ _ => 0)
  case atStart => exact ⟨rfl, rfl, rfl⟩
  case round =>
    obtain ⟨rfl, rfl, rfl⟩ := hrel
    go_wp2_with fail
    refine bodyPost_ret (v := .tuple #[.slice none 0 0, .nilIface]) (by simp [results, Tryz.results15, go_sem]) rfl ?_
    exact .ok _ _ (Lx.flt_zero f) rfl (World.ownsRow_nil _ _ _ _) hb3.out
/-- Words of a slice that came in -/
theorem words_arg (f : Nat → Nat) (n : Nat) (v : Value) (w : World) (hT : Lib.Utf8Tabs 1 2 w) (hS : Spans w) (hG : Signs w) (hf : ∀ j, f j < 256) (hbig : n ≤ 1099511627776) (hv : ArgS w f n v) :
    Calls Tryz.prog 15 #[v] w fun e w' => Lx.WordsE f n w e w' := by
  by_cases h0 : n = 0
  · subst h0
    exact words_none f v w hf hS hv
  · cases hv with
    | nil hn => exact absurd hn h0
    | some ad cap h1 h2 hc hp =>
      obtain ⟨b, o, rfl⟩ := hp (by omega)
      exact words_any f n b o cap w hT hS hG hf h1 h2 hbig (fun j hj => by have := hc j hj; rwa [show (Addr.add ⟨b, o, none⟩ j) = ⟨b, o + j, none⟩ from by simp [Addr.add]] at this)
end Go.Proofs.YtcnagbkdckipnaaGreatDoor
/-
  WALKS over runes.At where there are no bytes, and over ask.fault at bytes that came in.
-/
namespace Go.Proofs.YtcnagbkdckipnaaGreatDoor
open Go.RowKit Go.Lib Go.Sort
namespace Ak
set_option maxHeartbeats 2000000 in
theorem at_empty (ad : Addr) (cap : Nat) (_hm : cap ≤ 9223372036854775807) (f : Nat → Nat) (w : World) : Calls Tryz.prog 31 #[.slice (some ad) 0 cap, .int .i64 0] w fun e w' => e = .returned (.tuple #[.agg #[.int .i64 0, .int .i64 0, .int .i64 1, .int .i64 1], .int .i64 0]) ∧ Below w.heap.size w w' := by
  have hcv : ∀ W, (convert 22 9 (.slice (some ad) 0 cap)).run Tryz.prog W = .ok (.string (Rn.arr f 0)) W := fun W => run_convert_bytes_back (P := Tryz.prog) W 22 9 5 ad cap [] Tryz.underlying22 Tryz.underlying5 Tryz.underlying9 (fun j hj => by cases hj)
  go_enter Tryz.func31, Tryz.ntmps31
  go_wp2
  go_loopw [] (fun wr => wr = atW w (Rn.arr f 0) 0 0 0 1 1) (fun _ => 0)
  case atStart => unfold atW; go_num
  case round =>
    subst hrel
    have hnx := fun W hk ty => next_alloc_end W (w.heap.size + 1 + 1) hk f 0 0 (Nat.lt_irrefl 0) ty
    clear hcv
    unfold atW
    go_wp2_with fail
    refine bodyPost_ret (v := .tuple #[.agg #[.int .i64 0, .int .i64 0, .int .i64 1, .int .i64 1], .int .i64 0]) (by simp [results, Tryz.results31, go_sem]) rfl ⟨rfl, ?_⟩
    exact (((Below.refl w.heap.size w).alloc (Nat.le_refl _) _).alloc (by simp) _).alloc (by simp; omega) _
set_option maxHeartbeats 2000000 in
theorem at_nil (f : Nat → Nat) (w : World) : Calls Tryz.prog 31 #[.slice none 0 0, .int .i64 0] w fun e w' => e = .returned (.tuple #[.agg #[.int .i64 0, .int .i64 0, .int .i64 1, .int .i64 1], .int .i64 0]) ∧ Below w.heap.size w w' := by
  have hcv : ∀ W, (convert 22 9 (.slice none 0 0)).run Tryz.prog W = .ok (.string (Rn.arr f 0)) W := fun W => by
    rw [run_convert_bytes_nil (P := Tryz.prog) W 22 5 Tryz.underlying22 Tryz.underlying5 0 0 9 Tryz.underlying9]
    rfl
  go_enter Tryz.func31, Tryz.ntmps31
  go_wp2
  go_loopw [] (fun wr => wr = atW w (Rn.arr f 0) 0 0 0 1 1) (fun _ => 0)
  case atStart => unfold atW; go_num
  case round =>
    subst hrel
    have hnx := fun W hk ty => next_alloc_end W (w.heap.size + 1 + 1) hk f 0 0 (Nat.lt_irrefl 0) ty
    clear hcv
    unfold atW
    go_wp2_with fail
    refine bodyPost_ret (v := .tuple #[.agg #[.int .i64 0, .int .i64 0, .int .i64 1, .int .i64 1], .int .i64 0]) (by simp [results, Tryz.results31, go_sem]) rfl ⟨rfl, ?_⟩
    exact (((Below.refl w.heap.size w).alloc (Nat.le_refl _) _).alloc (by simp) _).alloc (by simp; omega) _
/-- At of the bytes that came in -/
theorem at_arg {w : World} {f : Nat → Nat} {n : Nat} {v : Value} (hA : ArgS w f n v) (hf : ∀ j, f j < 256) (hn : n ≤ 1099511627776) (a : Nat) (ha : a ≤ n) :
    Calls Tryz.prog 31 #[v, .int .i64 a] w fun e w' => e = .returned (.tuple #[.agg #[.int .i64 a, .int .i64 (Rn.plc f n a).1, .int .i64 (Rn.plc f n a).2.1, .int .i64 (Rn.plc f n a).2.2], .int .i64 0]) ∧ Below w.heap.size w w' := by
  cases hA with
  | nil h =>
    obtain rfl : a = 0 := by omega
    exact at_nil f w
  | some ad cap h1 h2 hc hp =>
    by_cases h0 : 0 < n
    · obtain ⟨q, o, rfl⟩ := hp h0
      exact at_in f n q o cap a w hf ha h1 h2 (by omega) (fun j hj => by have := hc j hj; rwa [show (Addr.add ⟨q, o, none⟩ j) = ⟨q, o + j, none⟩ from by simp [Addr.add]] at this)
    · obtain rfl : n = 0 := by omega
      obtain rfl : a = 0 := by omega
      exact at_empty ad cap (by unfold maxLen at h2; omega) f w
/-- the cells of a fault -/
def flC (f : Nat → Nat) (n a : Nat) (why : Int) : Array Value := #[.int .i64 (a : Nat), .int .i64 ((Rn.plc f n a).1 : Nat), .int .i64 ((Rn.plc f n a).2.1 : Nat), .int .i64 ((Rn.plc f n a).2.2 : Nat), .int .i64 why]
end Ak
set_option maxRecDepth 100000 in
set_option maxHeartbeats 2000000 in
theorem akFault {w : World} {f : Nat → Nat} {n : Nat} {v : Value} (hA : ArgS w f n v) (hf : ∀ j, f j < 256) (hn : n ≤ 1099511627776) (a : Nat) (ha : a ≤ n) (why : Int) :
    Calls Tryz.prog 14 #[v, .int .i64 a, .int .i64 why] w fun e w' => ∃ d, e = .returned (.pointer (some ⟨d, 0, none⟩)) ∧ w.heap.size ≤ d ∧
      w'.heap[d]? = some (.cells (Ak.flC f n a why) 72 (0, 0)) ∧ Below w.heap.size w w' := by
  have cA := Ak.at_arg hA hf hn a ha
  unfold Ak.flC
  generalize Rn.plc f n a = P at *
  obtain ⟨x, y, z⟩ := P
  dsimp only at cA ⊢
  clear hA
  go_enter Tryz.func14, Tryz.ntmps14
  go_wp2_with fail
  refine cA.mono ?_
  rintro e w1 ⟨rfl, hb⟩
  clear cA
  go_wp2_with fail
  go_ret
  refine ⟨w1.heap.size + 1, rfl, by have := hb.size; omega, ?_, (hb.alloc hb.size _).alloc (by have := hb.size; simp; omega) _⟩
  have := Ak.heap_new (w1.alloc (.cells #[.int .i64 a, .int .i64 x, .int .i64 y, .int .i64 z] 31)) (.cells #[.int .i64 a, .int .i64 x, .int .i64 y, .int .i64 z, .int .i64 why] 72)
  simpa using this
end Go.Proofs.YtcnagbkdckipnaaGreatDoor
/-
  The mathematics of LexisCover: words lie one behind the other, blanks alone between them.
-/
namespace Go.Proofs.YtcnagbkdckipnaaGreatDoor
open Go.Lib
namespace Lx
open Rn
open _root_.Go.Proofs.YtcnagbkdckipnaaGreatDoor.Fd
def bl (v : Nat) : Prop := v = 9 ∨ v = 10 ∨ v = 13 ∨ v = 32
/-- a word stands where its place says -/
structure Wok (f : Nat → Nat) (n p : Nat) (x : Wd) : Prop where
  le : p + x.wd ≤ n
  pos : 0 < x.wd
  kind : (x.k ≠ 1 ∧ x.k ≠ 2 ∧ x.tx = arr (off f p) x.wd) ∨ (x.k = 1 ∧ 2 ≤ x.wd ∧ x.tx = arr (off f (p + 1)) (x.wd - 2) ∧ f p = f (p + x.wd - 1)) ∨
    (x.k = 2 ∧ (∀ j, j < x.wd → 48 ≤ f (p + j) ∧ f (p + j) ≤ 57) ∧ (p + x.wd < n → ¬ (48 ≤ f (p + x.wd) ∧ f (p + x.wd) ≤ 57)))
/-- words, blanks alone between them, from a place on up to the end -/
def Cov (f : Nat → Nat) (n : Nat) : Nat → List (Nat × Wd) → Prop
  | at_, [] => at_ ≤ n ∧ ∀ j, at_ ≤ j → j < n → bl (f j)
  | at_, (p, x) :: l => at_ ≤ p ∧ p < n ∧ (∀ j, at_ ≤ j → j < p → bl (f j)) ∧ Wok f n p x ∧ Cov f n (p + x.wd) l
theorem pre_arr : ∀ (l : List Nat) (f : Nat → Nat) (n : Nat), pre f n l = true → bt l = arr f l.length
  | [], f, n, _ => rfl
  | c :: l, f, n, h => by
    unfold pre at h
    simp only [Bool.and_eq_true, decide_eq_true_eq] at h
    obtain ⟨⟨h1, h2⟩, h3⟩ := h
    have ih := pre_arr l (off f 1) (n - 1) h3
    apply ByteArray.ext
    have e := congrArg (fun b : ByteArray => b.data.toList) ih
    simp only [bt, arr] at e ⊢
    apply Array.ext'
    simp only [Array.toList_ofFn, List.map_cons, List.length_cons, List.ofFn_succ] at e ⊢
    rw [e]
    simp only [off, List.cons.injEq]
    refine ⟨by simp [h2], ?_⟩
    simp [Nat.add_comm]
theorem rdSgn_ok {f : Nat → Nat} {n : Nat} : ∀ (l : List (List Nat)), (rdSgn f n l).ok = true → (rdSgn f n l).k = 3 ∧ (rdSgn f n l).tx = arr f (rdSgn f n l).wd
  | [], h => by simp [rdSgn] at h
  | s :: l, h => by
    unfold rdSgn at h ⊢
    by_cases c : pre f n s = true
    · rw [if_pos c]
      exact ⟨rfl, pre_arr s f n c⟩
    · rw [if_neg c] at h ⊢
      exact rdSgn_ok l h
theorem rd_wok {f : Nat → Nat} {n : Nat} (hf : ∀ j, f j < 256) (hn : 0 < n) (ho : (rd f n).ok = true) : Wok f n 0 (rd f n) := by
  obtain ⟨a1, a2, _⟩ := rd_spec hf hn
  refine ⟨by omega, a2 ho, ?_⟩
  unfold rd at ho ⊢
  simp only [off_zero, Nat.zero_add]
  split
  · exact .inl ⟨by simp, by simp, rfl⟩
  · next h1 =>
    rw [if_neg h1] at ho
    split
    · next h2 =>
      rw [if_pos h2] at ho
      unfold rdNum at ho ⊢
      by_cases c1 : 1000000 < num f (lead f n 4)
      · rw [if_pos c1] at ho; cases ho
      · rw [if_neg c1] at ho ⊢
        by_cases c2 : 0 < lead (off f (lead f n 4)) (n - lead f n 4) 2
        · rw [if_pos c2] at ho; cases ho
        · rw [if_neg c2]
          exact .inr (.inr ⟨rfl, fun j hj => lead_digit hf hj, fun h => lead_digit_end hf h⟩)
    · next h2 =>
      rw [if_neg h2] at ho
      split
      · next h3 =>
        rw [if_pos h3] at ho
        unfold rdTxt at ho ⊢
        by_cases c : idx (off f 1) (n - 1) (f 0) < n - 1
        · rw [if_pos c]
          obtain ⟨_, _, a3⟩ := idx_spec (off f 1) (n - 1) (f 0)
          have e := a3 c
          refine .inr (.inl ⟨rfl, by show 2 ≤ idx (off f 1) (n - 1) (f 0) + 2; omega, ?_, ?_⟩)
          · show arr (off f 1) (idx (off f 1) (n - 1) (f 0)) = arr (off f 1) (idx (off f 1) (n - 1) (f 0) + 2 - 2)
            rw [Nat.add_sub_cancel]
          · show f 0 = f (idx (off f 1) (n - 1) (f 0) + 2 - 1)
            rw [show idx (off f 1) (n - 1) (f 0) + 2 - 1 = 1 + idx (off f 1) (n - 1) (f 0) by omega]
            exact e.symm
        · rw [if_neg c] at ho; cases ho
      · next h3 =>
        rw [if_neg h3] at ho
        obtain ⟨e1, e2⟩ := rdSgn_ok sgs ho
        exact .inl ⟨by rw [e1]; decide, by rw [e1]; decide, e2⟩
theorem wok_off {f : Nat → Nat} {n p : Nat} {x : Wd} (hp : p ≤ n) (h : Wok (off f p) (n - p) 0 x) : Wok f n p x := by
  obtain ⟨h1, h2, h3⟩ := h
  refine ⟨by omega, h2, ?_⟩
  rcases h3 with ⟨a, b, c⟩ | ⟨a, b, c, d⟩ | ⟨a, b, c⟩
  · exact .inl ⟨a, b, by rw [off_zero] at c; exact c⟩
  · refine .inr (.inl ⟨a, b, ?_, ?_⟩)
    · rw [off_off] at c; exact c
    · have e : f (p + 0) = f (p + (0 + x.wd - 1)) := d
      rw [Nat.add_zero, Nat.zero_add] at e
      rw [e, show p + (x.wd - 1) = p + x.wd - 1 by omega]
  · refine .inr (.inr ⟨a, fun j hj => ?_, fun h => ?_⟩)
    · have := b j hj
      simp only [off, Nat.zero_add] at this
      exact this
    · have := c (by omega)
      simp only [off, Nat.zero_add] at this
      exact this
theorem wds_cov {f : Nat → Nat} {n : Nat} (hf : ∀ j, f j < 256) : ∀ (k at_ p : Nat), at_ ≤ p → p ≤ n → n ≤ p + k → (∀ j, at_ ≤ j → j < p → bl (f j)) → (wds f n k p).2 = none → Cov f n at_ (wds f n k p).1
  | 0, at_, p, h1, h2, h3, hb, _ => by
    obtain rfl : p = n := by omega
    exact ⟨h1, hb⟩
  | k + 1, at_, p, h1, h2, h3, hb, hn => by
    by_cases h : p < n
    · cases ho : (rd (off f p) (n - p)).ok
      · rw [wds_bad h ho] at hn; cases hn
      · rw [wds_ok h ho] at hn ⊢
        obtain ⟨a1, a2, a3, _⟩ := nxt_spec hf h ho
        have hw := wok_off (by omega) (rd_wok (f := off f p) (n := n - p) (fun _ => hf _) (by omega) ho)
        refine ⟨h1, h, hb, hw, wds_cov hf k _ _ a2 a3 (by omega) (fun j j1 j2 => ?_) hn⟩
        have := lead_blank (f := off f (p + (rd (off f p) (n - p)).wd)) (n := n - (p + (rd (off f p) (n - p)).wd)) (j := j - (p + (rd (off f p) (n - p)).wd)) (fun _ => hf _) (by unfold nxt at j2; omega)
        simp only [off] at this
        rw [show p + (rd (off f p) (n - p)).wd + (j - (p + (rd (off f p) (n - p)).wd)) = j by omega] at this
        exact this
    · obtain rfl : p = n := by omega
      rw [wds_end _ _ _ _ h]
      exact ⟨h1, hb⟩
theorem wdls_get (f : Nat → Nat) (n : Nat) : ∀ (L : List (Nat × Wd)) (i : Nat) (x : Nat × Wd) (j : Nat), L[i]? = some x → j < 7 → (wdls f n L)[i * 7 + j]? = (wdl f n x)[j]?
  | [], i, x, j, h, _ => by simp at h
  | y :: L, 0, x, j, h, hj => by
    obtain rfl : y = x := by simpa using h
    have e : wdls f n (y :: L) = wdl f n y ++ wdls f n L := by simp [wdls]
    rw [e, Nat.zero_mul, Nat.zero_add, List.getElem?_append_left (by rw [wdl_length]; exact hj)]
  | y :: L, i + 1, x, j, h, hj => by
    have e : wdls f n (y :: L) = wdl f n y ++ wdls f n L := by simp [wdls]
    rw [e, List.getElem?_append_right (by rw [wdl_length]; omega), wdl_length, show (i + 1) * 7 + j - 7 = i * 7 + j by omega]
    exact wdls_get f n L i x j (by simpa using h) hj
theorem cov_le {f : Nat → Nat} {n : Nat} : ∀ {L : List (Nat × Wd)} {at_ : Nat}, Cov f n at_ L → at_ ≤ n
  | [], _, h => h.1
  | (p, x) :: L, _, h => by have := h.1; have := h.2.1; omega
theorem wds_len {f : Nat → Nat} {n : Nat} (hf : ∀ j, f j < 256) : ∀ (k p : Nat), p ≤ n → p + (wds f n k p).1.length ≤ n
  | 0, p, h => by simpa [wds] using h
  | k + 1, p, h => by
    by_cases c : p < n
    · cases ho : (rd (off f p) (n - p)).ok
      · rw [wds_bad c ho]; simpa using h
      · rw [wds_ok c ho]
        obtain ⟨a1, a2, a3, _⟩ := nxt_spec hf c ho
        have := wds_len hf k _ a3
        simp only [List.length_cons]
        omega
    · rw [wds_end _ _ _ _ c]; simpa using h
theorem words_len {f : Nat → Nat} {n : Nat} (hf : ∀ j, f j < 256) : (words f n).1.length ≤ n := by
  have := wds_len hf n (lead f n 1) (lead_le hf)
  unfold words
  omega
theorem words_cov {f : Nat → Nat} {n : Nat} (hf : ∀ j, f j < 256) (h : (words f n).2 = none) : Cov f n 0 (words f n).1 :=
  wds_cov hf n 0 (lead f n 1) (Nat.zero_le _) (lead_le hf) (by omega) (fun _ _ hj => lead_blank hf hj) h
end Lx
end Go.Proofs.YtcnagbkdckipnaaGreatDoor
/-
  WHAT ask.Parse COMES TO, as a pure function of the bytes and the limits; its words as the parser has them.
-/
namespace Go.Proofs.YtcnagbkdckipnaaGreatDoor
open Go.RowKit Go.Lib Go.Sort
namespace Ak
/-- the words of a query; behind them its end -/
def wsOf (f : Nat → Nat) (n i : Nat) : Wo := match (Lx.words f n).1[i]? with
  | some x => ⟨(x.2.k : Nat), x.2.tx, (x.2.nm : Nat), (x.1 : Nat), ((Rn.plc f n x.1).1 : Nat), ((Rn.plc f n x.1).2.1 : Nat), ((Rn.plc f n x.1).2.2 : Nat)⟩
  | none => ⟨0, ⟨#[]⟩, 0, (n : Nat), ((Rn.plc f n n).1 : Nat), ((Rn.plc f n n).2.1 : Nat), ((Rn.plc f n n).2.2 : Nat)⟩
/-- the byte at which a word begins -/
def posOf (f : Nat → Nat) (n i : Nat) : Nat := match (Lx.words f n).1[i]? with
  | some x => x.1
  | none => n
/-- a limit, within its bounds -/
def lim (k : Int) (m : Nat) : Nat := min (max k 0).toNat m
/-- a path, or the byte that is wrong, and why -/
inductive An where
  | path (st : List Sp)
  | bad (a : Nat) (why : Int)
/-- how many words -/
def wn (f : Nat → Nat) (n : Nat) : Nat := (Lx.words f n).1.length
def askR (f : Nat → Nat) (n : Nat) (len nes : Int) : An :=
  if lim len 65536 < n then .bad (lim len 65536) 101 else match Lx.flt f n with
    | some x => .bad x.1 x.2
    | none => match parseR (wn f n) (wsOf f n) (lim nes 200) with
      | .ok st _ => .path st
      | .bad i why => .bad (posOf f n i) why
theorem wsOf_end (f : Nat → Nat) (n : Nat) : wsOf f n (wn f n) = ⟨0, ⟨#[]⟩, 0, (n : Nat), ((Rn.plc f n n).1 : Nat), ((Rn.plc f n n).2.1 : Nat), ((Rn.plc f n n).2.2 : Nat)⟩ := by
  unfold wsOf wn
  rw [List.getElem?_eq_none (Nat.le_refl _)]
/-- the cells of a fault at a word -/
theorem flC_ws (f : Nat → Nat) (n i : Nat) (why : Int) : #[Value.int .i64 (plC (wn f n) (wsOf f n) (wsOf f n (wn f n)) i).p0, .int .i64 (plC (wn f n) (wsOf f n) (wsOf f n (wn f n)) i).p1, .int .i64 (plC (wn f n) (wsOf f n) (wsOf f n (wn f n)) i).p2, .int .i64 (plC (wn f n) (wsOf f n) (wsOf f n (wn f n)) i).p3, .int .i64 why] = flC f n (posOf f n i) why := by
  have e : plC (wn f n) (wsOf f n) (wsOf f n (wn f n)) i = wsOf f n i := by
    unfold plC
    split
    · rfl
    · rename_i h
      rw [wsOf_end]
      unfold wsOf
      rw [List.getElem?_eq_none (by unfold wn at h; omega)]
  rw [e]
  unfold wsOf posOf flC
  cases (Lx.words f n).1[i]? <;> rfl
theorem wdls_get (f : Nat → Nat) (n : Nat) : ∀ (l : List (Nat × Lx.Wd)) (i j : Nat) (x : Nat × Lx.Wd) (u : Value), l[i]? = some x → (Lx.wdl f n x)[j]? = some u → (Lx.wdls f n l)[i * 7 + j]? = some u
  | [], _, _, _, _, h, _ => by simp at h
  | a :: l, 0, j, x, u, h, hu => by
    simp at h
    subst h
    have hj := (List.getElem?_eq_some_iff.1 hu).1
    rw [Lx.wdls, List.flatMap_cons, List.getElem?_append_left (by simpa using hj)]
    simpa using hu
  | a :: l, i + 1, j, x, u, h, hu => by
    rw [Lx.wdls, List.flatMap_cons, List.getElem?_append_right (by rw [Lx.wdl_length]; omega), Lx.wdl_length, show (i + 1) * 7 + j - 7 = i * 7 + j by omega]
    exact wdls_get f n l i j x u (by simpa using h) hu
theorem wrow {w : World} {f : Nat → Nat} {n B : Nat} {v : Value} (h : w.ownsRow B 86 7 v (Lx.words f n).1.length (Lx.wdls f n (Lx.words f n).1)) : WRow w v (wn f n) (wsOf f n) := by
  rcases h.2 with ⟨e, e0⟩ | ⟨g, cap, cur, e, hg, hcur, h3, h4, h5, h6⟩
  · refine ⟨none, 0, ?_, ?_, by omega, fun h0 => ?_⟩
    · rw [e]; unfold wn; rw [e0]
    · unfold wn; omega
    · unfold wn at h0; omega
  · refine ⟨_, cap, e, h3, by unfold maxLen at h4; omega, fun _ => ⟨g, 0, cur, rfl, hcur, fun i j u hi hu => ?_⟩⟩
    obtain ⟨x, hx⟩ : ∃ x, (Lx.words f n).1[i]? = some x := ⟨_, List.getElem?_eq_getElem hi⟩
    have hu2 : (Lx.wdl f n x)[j]? = some u := by
      unfold wsOf at hu
      rw [hx] at hu
      rw [← hu, ← Array.getElem?_toList]
      rfl
    have := h.cells (g := g) (by rw [e]; rfl) _ _ (wdls_get f n _ i j x u hx hu2)
    rw [Nat.zero_add]
    unfold Addr.add at this
    split at this
    · rename_i e; rw [e]; exact this
    · simpa using this
theorem Tb.below {w w' : World} (h : Tb w) (hb : Below w.heap.size w w') : Tb w' :=
  ⟨fun i s hs => (hb.cell (p := ⟨7, i, none⟩) (block_lt_of_cell (h.cm i s hs))).trans (h.cm i s hs), fun i s hs => (hb.cell (p := ⟨5, i, none⟩) (block_lt_of_cell (h.ax i s hs))).trans (h.ax i s hs)⟩
theorem args_imp {w w' : World} {f : Nat → Nat} {n : Nat} {v : Value} (h : ArgS w f n v) (hk : ∀ (a : Addr) u, w.cell? a = some u → w'.cell? a = some u) : ArgS w' f n v := by
  cases h with
  | nil hn => exact .nil hn
  | some ad cap h1 h2 hc hp => exact .some ad cap h1 h2 (fun j hj => hk _ _ (hc j hj)) hp
/-- the place of the end, as the parser asks for it -/
theorem qy_of {w W : World} {f : Nat → Nat} {n P : Nat} {v : Value} (hv : ArgS w f n v) (hb : Below w.heap.size w W) (hP : w.heap.size ≤ P) (hf : ∀ j, f j < 256) (hn : n ≤ 1099511627776) : Qy P W v (wsOf f n (wn f n)) := by
  obtain ⟨p, cap, rfl, _⟩ := hv.span
  refine ⟨p, n, cap, rfl, fun W' hp why => ?_⟩
  have hA : ArgS W' f n (.slice p n cap) := args_imp hv fun a u e => by
    have h1 := block_lt_of_cell e
    exact hp.cell ((hb.cell (p := a) h1).trans e) (by omega)
  refine (akFault hA hf hn n (Nat.le_refl _) why).mono ?_
  rintro e w1 ⟨d, rfl, h1, h2, h3⟩
  refine ⟨d, rfl, h1, ?_, h3⟩
  rw [wsOf_end]
  exact h2
end Ak
end Go.Proofs.YtcnagbkdckipnaaGreatDoor
