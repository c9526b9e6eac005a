/-
  WALKS over refs.names and refs.readName: a map that is ranged over in any order.
-/
import Derived.Test.YtbbbokkfhfmoeabDoorRfName
import Derived.Test.YtbbbokkfhfmoeabDoorRfRefW
import Derived.Sort.KeysCollected
namespace Go.Proofs.YtbbbokkfhfmoeabDoor
open Go.RowKit Go.Lib

namespace Rf
/-- the five names, and what they stand for -/
def nmT : List (List UInt8 × Nat) := [([97, 109, 112], 38), ([108, 116], 60), ([103, 116], 62), ([113, 117, 111, 116], 34), ([97, 112, 111, 115], 39)]
def nmD : DataW Unit := (((((DataW.map []).put (.string [97, 109, 112]) (.lit (.int .i32 38))).put (.string [108, 116]) (.lit (.int .i32 60))).put (.string [103, 116]) (.lit (.int .i32 62))).put (.string [113, 117, 111, 116]) (.lit (.int .i32 34))).put (.string [97, 112, 111, 115]) (.lit (.int .i32 39))
def whl (s : List UInt8) : List UInt8 := 38 :: (s ++ [59])
/-- how far the bytes go with a name's reference -/
def cmn (f : Nat → Nat) (n : Nat) (s : List UInt8) : Nat := cp f n (whl s) 0
def mxN (f : Nat → Nat) (n : Nat) (left : Lit → Bool) : List (List UInt8 × Nat) → Nat
  | [] => 0
  | e :: t => max (if left (.string e.1) = true then 0 else cmn f n e.1) (mxN f n left t)
/-- what readName answers -/
def nm (f : Nat → Nat) (n : Nat) : Nat × Nat × Nat :=
  match nmT.find? (fun e => decide (cmn f n e.1 = e.1.length + 2)) with
  | some e => (e.2, e.1.length + 2, 0)
  | none => if mxN f n (fun _ => false) nmT = n then (0, 0, 1) else (0, mxN f n (fun _ => false) nmT, 2)
theorem cp_le (f : Nat → Nat) (n : Nat) : ∀ (l : List UInt8) (a : Nat), a ≤ cp f n l a ∧ cp f n l a ≤ a + l.length
  | [], a => ⟨Nat.le_refl _, Nat.le_refl _⟩
  | x :: r, a => by
    have := cp_le f n r (a + 1)
    unfold cp
    split
    · simp only [List.length_cons]; omega
    · simp only [List.length_cons]; omega
theorem cp_full (f : Nat → Nat) (n : Nat) : ∀ (l : List UInt8) (a : Nat), cp f n l a = a + l.length → ∀ j (h : j < l.length), a + j < n ∧ f (a + j) = (l[j]'h).toNat
  | [], _, _, _, h => by simp at h
  | x :: r, a, he, j, h => by
    unfold cp at he
    split at he
    · next q =>
      cases j with
      | zero => exact ⟨by omega, q.2⟩
      | succ j =>
        have hr : cp f n r (a + 1) = (a + 1) + r.length := by simp only [List.length_cons] at he; omega
        have := cp_full f n r (a + 1) hr j (by simpa using h)
        rw [show a + 1 + j = a + (j + 1) by omega] at this
        exact this
    · simp only [List.length_cons] at he; omega
theorem full12 {f : Nat → Nat} {n : Nat} {s : List UInt8} (h : cmn f n s = s.length + 2) (h2 : 2 ≤ s.length) : f 1 = (s[0]'(by omega)).toNat ∧ f 2 = (s[1]'(by omega)).toNat := by
  have hw : (whl s).length = s.length + 2 := by simp [whl]
  have k := cp_full f n (whl s) 0 (by rw [hw]; unfold cmn at h; omega)
  have k1 := (k 1 (by omega)).2
  have k2 := (k 2 (by omega)).2
  constructor
  · rw [show 0 + 1 = 1 from rfl] at k1
    rw [k1]
    simp [whl, List.getElem_append_left, show 0 < s.length by omega]
  · rw [show 0 + 2 = 2 from rfl] at k2
    rw [k2]
    simp [whl, List.getElem_append_left, show 1 < s.length by omega]
theorem find_uni {α : Type} {p : α → Bool} {e : α} : ∀ l : List α, e ∈ l → p e = true → (∀ x ∈ l, x ≠ e → p x = false) → l.find? p = some e
  | [], h, _, _ => by cases h
  | x :: r, h, he, hk => by
    by_cases q : x = e
    · subst q
      exact List.find?_cons_of_pos he
    · rw [List.find?_cons_of_neg (by rw [hk x (List.mem_cons_self ..) q]; decide)]
      refine find_uni r ?_ he (fun y hy => hk y (List.mem_cons_of_mem _ hy))
      rcases List.mem_cons.1 h with h | h
      · exact absurd h.symm q
      · exact h
theorem find_full {f : Nat → Nat} {n : Nat} {e : List UInt8 × Nat} (he : e ∈ nmT) (h : cmn f n e.1 = e.1.length + 2) : nmT.find? (fun e => decide (cmn f n e.1 = e.1.length + 2)) = some e := by
  have k : ∀ e' ∈ nmT, e' ≠ e → ¬ cmn f n e'.1 = e'.1.length + 2 := by
    intro e' he' hne h'
    simp only [nmT, List.mem_cons, List.not_mem_nil, or_false] at he he'
    rcases he with rfl | rfl | rfl | rfl | rfl <;> rcases he' with rfl | rfl | rfl | rfl | rfl <;> first
      | exact hne rfl
      | (have a1 := full12 h (by decide); have a2 := full12 h' (by decide); simp at a1 a2; omega)
  exact find_uni nmT he (by simpa using h) (fun x hx hne => by simpa using k x hx hne)
theorem at5 : ∀ e ∈ nmT, ∀ zd, nmD.atKey (.string e.1) zd = .lit (.int .i32 (e.2 : Nat)) := by
  intro e he zd
  simp only [nmT, List.mem_cons, List.not_mem_nil, or_false] at he
  rcases he with rfl | rfl | rfl | rfl | rfl <;> rfl
theorem has5 (kl : Lit) (h : Maps.has nmD kl = true) : ∃ e ∈ nmT, kl = .string e.1 := by
  have e0 : nmD = .map [(.string [97, 109, 112], .lit (.int .i32 38)), (.string [97, 112, 111, 115], .lit (.int .i32 39)), (.string [103, 116], .lit (.int .i32 62)), (.string [108, 116], .lit (.int .i32 60)), (.string [113, 117, 111, 116], .lit (.int .i32 34))] := by rfl
  rw [e0, Maps.has_eq] at h
  cases kl with
  | string s =>
    simp [Lit.sameKey] at h
    rcases h with h | h | h | h | h
    · exact ⟨([97, 109, 112], 38), by decide, by rw [h]⟩
    · exact ⟨([97, 112, 111, 115], 39), by decide, by rw [h]⟩
    · exact ⟨([103, 116], 62), by decide, by rw [h]⟩
    · exact ⟨([108, 116], 60), by decide, by rw [h]⟩
    · exact ⟨([113, 117, 111, 116], 34), by decide, by rw [h]⟩
  | _ => simp [Lit.sameKey] at h
end Rf

theorem strKeyed : Maps.Keyed Tryd.prog 9 := Maps.string_keyed Tryd.underlying9

set_option maxHeartbeats 1000000 in
theorem names_any (w : World) :
    Calls Tryd.prog 18 #[] w fun e w' => e = .returned (.map (some w.heap.size)) ∧ w'.ownsMap Tryd.prog 9 (plainElem (H := Unit) Tryd.prog 21) w.heap.size 5 Rf.nmD ∧ Below w.heap.size w w' := by
  have hmk := run_makeMap (P := Tryd.prog) 46 w
  have hM0 := World.ownsMap_made w Tryd.prog 9 (plainElem (H := Unit) Tryd.prog 21)
  obtain ⟨W1, r1, hM1, g1⟩ := hM0.update strKeyed Tryd.underlying46 (by unfold maxLen; omega) (key := .string ⟨#[97, 109, 112]⟩) (val := .int .i32 38) (kl := .string [97, 109, 112]) (d := .lit (.int .i32 38)) (ps := []) (by kernel_rfl) (by kernel_rfl)
  obtain ⟨W2, r2, hM2, g2⟩ := hM1.update strKeyed Tryd.underlying46 (by unfold maxLen; omega) (key := .string ⟨#[108, 116]⟩) (val := .int .i32 60) (kl := .string [108, 116]) (d := .lit (.int .i32 60)) (ps := []) (by kernel_rfl) (by kernel_rfl)
  obtain ⟨W3, r3, hM3, g3⟩ := hM2.update strKeyed Tryd.underlying46 (by unfold maxLen; omega) (key := .string ⟨#[103, 116]⟩) (val := .int .i32 62) (kl := .string [103, 116]) (d := .lit (.int .i32 62)) (ps := []) (by kernel_rfl) (by kernel_rfl)
  obtain ⟨W4, r4, hM4, g4⟩ := hM3.update strKeyed Tryd.underlying46 (by unfold maxLen; omega) (key := .string ⟨#[113, 117, 111, 116]⟩) (val := .int .i32 34) (kl := .string [113, 117, 111, 116]) (d := .lit (.int .i32 34)) (ps := []) (by kernel_rfl) (by kernel_rfl)
  obtain ⟨W5, r5, hM5, g5⟩ := hM4.update strKeyed Tryd.underlying46 (by unfold maxLen; omega) (key := .string ⟨#[97, 112, 111, 115]⟩) (val := .int .i32 39) (kl := .string [97, 112, 111, 115]) (d := .lit (.int .i32 39)) (ps := []) (by kernel_rfl) (by kernel_rfl)
  have hB : Below w.heap.size w W5 := by
    have b0 : Below w.heap.size w (w.alloc (.map #[] 0)) := (Below.refl _ _).alloc (Nat.le_refl _) _
    have st : ∀ {a b : World}, Below w.heap.size w a → a.grownBy b (some w.heap.size) → Below w.heap.size w b := fun ha hg => ha.grown hg ha.size (fun j hj => by cases hj; exact Nat.le_refl _)
    exact st (st (st (st (st b0 g1) g2) g3) g4) g5
  have HM := hide' hM5
  clear hM0 hM1 hM2 hM3 hM4 hM5 g1 g2 g3 g4 g5
  go_enter Tryd.func18, Tryd.ntmps18
  go_wp2
  go_ret
  exact ⟨rfl, HM.out, hB⟩

namespace Rf
/-- one name more -/
theorem mxN_step (f : Nat → Nat) (n : Nat) (left : Lit → Bool) (s : List UInt8) (hl : left (.string s) = true) : ∀ t : List (List UInt8 × Nat), mxN f n (fun z => left z && !z.sameKey (.string s)) t = if ∃ e ∈ t, e.1 = s then max (mxN f n left t) (cmn f n s) else mxN f n left t
  | [] => by rw [if_neg (by simp)]; rfl
  | e :: t => by
    have ih := mxN_step f n left s hl t
    show max (if (left (.string e.1) && !(Lit.string e.1).sameKey (.string s)) = true then 0 else cmn f n e.1) (mxN f n _ t) = _
    rw [ih]
    have hs : (Lit.string e.1).sameKey (.string s) = decide (e.1 = s) := by
      rw [Bool.eq_iff_iff]; simp [Lit.sameKey]
    by_cases h : e.1 = s
    · rw [if_pos (⟨e, List.mem_cons_self .., h⟩ : ∃ x ∈ e :: t, x.1 = s)]
      have e1 : (left (.string e.1) && !(Lit.string e.1).sameKey (.string s)) = false := by rw [hs]; simp [h]
      rw [if_neg (by rw [e1]; decide)]
      show _ = max (max (if left (.string e.1) = true then 0 else cmn f n e.1) (mxN f n left t)) _
      rw [h, if_pos hl]
      split <;> omega
    · have e1 : (left (.string e.1) && !(Lit.string e.1).sameKey (.string s)) = left (.string e.1) := by rw [hs]; simp [h]
      have e2 : (∃ x ∈ e :: t, x.1 = s) ↔ ∃ x ∈ t, x.1 = s := by
        constructor
        · rintro ⟨x, hx, q⟩
          rcases List.mem_cons.1 hx with rfl | hx
          · exact absurd q h
          · exact ⟨x, hx, q⟩
        · rintro ⟨x, hx, q⟩
          exact ⟨x, List.mem_cons_of_mem _ hx, q⟩
      rw [e1]
      show _ = if _ then max (max (if left (.string e.1) = true then 0 else cmn f n e.1) (mxN f n left t)) _ else max (if left (.string e.1) = true then 0 else cmn f n e.1) (mxN f n left t)
      by_cases q : ∃ x ∈ t, x.1 = s
      · rw [if_pos q, if_pos (e2.2 q)]; omega
      · rw [if_neg q, if_neg (fun r => q (e2.1 r))]
theorem mxN_zero (f : Nat → Nat) (n : Nat) (left : Lit → Bool) : ∀ t : List (List UInt8 × Nat), (∀ e ∈ t, left (.string e.1) = true) → mxN f n left t = 0
  | [], _ => rfl
  | e :: t, h => by
    show max _ _ = 0
    rw [if_pos (h e (List.mem_cons_self ..)), mxN_zero f n left t (fun x hx => h x (List.mem_cons_of_mem _ hx))]
    rfl
theorem nm_len {e : List UInt8 × Nat} (he : e ∈ nmT) : e.1.length ≤ 4 ∧ e.2 ≤ 100 := by
  simp only [nmT, List.mem_cons, List.not_mem_nil, or_false] at he
  rcases he with rfl | rfl | rfl | rfl | rfl <;> decide
theorem nm_full {f : Nat → Nat} {n : Nat} {e : List UInt8 × Nat} (he : e ∈ nmT) (h : cmn f n e.1 = e.1.length + 2) : nm f n = (e.2, e.1.length + 2, 0) := by
  unfold nm
  rw [find_full he h]
theorem nm_none {f : Nat → Nat} {n : Nat} (h : ∀ e ∈ nmT, ¬ cmn f n e.1 = e.1.length + 2) : nm f n = if mxN f n (fun _ => false) nmT = n then (0, 0, 1) else (0, mxN f n (fun _ => false) nmT, 2) := by
  unfold nm
  rw [List.find?_eq_none.2 (fun e he => by simpa using h e he)]
theorem cmn_le (f : Nat → Nat) (n : Nat) (s : List UInt8) : cmn f n s ≤ s.length + 2 := by
  have h1 := (cp_le f n (whl s) 0).2
  have h2 : (whl s).length = s.length + 2 := by simp [whl]
  unfold cmn
  omega
theorem mxN_le (f : Nat → Nat) (n : Nat) (left : Lit → Bool) : ∀ t : List (List UInt8 × Nat), (∀ e ∈ t, e.1.length ≤ 4) → mxN f n left t ≤ 6
  | [], _ => Nat.zero_le _
  | e :: t, h => by
    have h1 := cmn_le f n e.1
    have h2 := h e (List.mem_cons_self ..)
    have h3 := mxN_le f n left t (fun x hx => h x (List.mem_cons_of_mem _ hx))
    show max _ _ ≤ 6
    split <;> omega
end Rf

set_option maxRecDepth 100000 in
set_option maxHeartbeats 1000000 in
theorem readName_any (f : Nat → Nat) (pa : Option Addr) (n cap : Nat) (w : World) (hn : n ≤ 9223372036854775806)
    (hpa : 0 < n → ∃ b o, pa = some ⟨b, o, none⟩ ∧ Bytes w b o n f ∧ b < w.heap.size) :
    Calls Tryd.prog 10 #[.slice pa n cap] w fun e w' => e = .returned (Rf.rdV (Rf.nm f n)) ∧ Below w.heap.size w w' := by
  have cN := names_any w
  have cC := fun (l : List UInt8) W (hb : Below w.heap.size w W) => common_any f pa n cap l W hn (fun h0 => by
    obtain ⟨b, o, e, hby, hlt⟩ := hpa h0
    exact ⟨b, o, e, hby.below hb (Nat.le_refl _), Nat.lt_of_lt_of_le hlt hb.size⟩)
  clear hpa
  go_enter Tryd.func10, Tryd.ntmps10
  go_wp2_with fail
  refine cN.mono ?_
  rintro e w1 ⟨rfl, hM1, hb1⟩
  clear cN
  go_wp2_with (at_range; refine wpList_range_own _ rfl _ 46 rfl 9 21 strKeyed Tryd.underlying46 (plainElem (H := Unit) Tryd.prog 21) w.heap.size 5 Rf.nmD rfl hM1 ?_)
  intro w0 hrg0 hg0 hs0
  have hB0 : Below w.heap.size w w0 := hb1.grown hg0 hb1.size (fun j hj => by cases hj)
  have hsr : w.heap.size ≤ w1.heap.size := hb1.size
  clear hM1 hb1 hg0 hs0
  go_wp2
  go_loopw [5] (fun lo wr => ∃ (left : Lit → Bool) (cnt : Nat), lo = .int .i64 (Rf.mxN f n left Rf.nmT) ∧ wr.ranges Tryd.prog 9 (plainElem (H := Unit) Tryd.prog 21) w.heap.size w1.heap.size 5 Rf.nmD left cnt ∧ Hid (∀ e ∈ Rf.nmT, left (.string e.1) = false → ¬ Rf.cmn f n e.1 = e.1.length + 2) ∧ Hid (∀ kl, left kl = true → ∃ e ∈ Rf.nmT, kl = .string e.1) ∧ Below w.heap.size w wr) (fun _ wr => wr.rangeLeft w.heap.size w1.heap.size)
  case atStart =>
    have h5 : ∀ e ∈ Rf.nmT, Maps.has Rf.nmD (.string e.1) = true := fun e he => Maps.has_true_of_atKey (Rf.at5 e he)
    refine ⟨_, _, ?_, hrg0, ?_, ?_, hB0⟩
    · rw [Rf.mxN_zero f n _ Rf.nmT h5]; rfl
    · show ∀ e ∈ Rf.nmT, _
      intro e he h
      rw [h5 e he] at h
      cases h
    · exact fun kl h => Rf.has5 kl h
  case round =>
    obtain ⟨left, cnt, rfl, hrg, hno, hle, hB⟩ := hrel
    clear hrg0 hB0
    go_wp2_with (at_next; (refine wpList_next_ranges _ rfl _ rfl 9 strKeyed (plainElem (H := Unit) Tryd.prog 21) (fun l : List UInt8 => Value.string ⟨l.toArray⟩) (Value.int .i32) (fun key kl hk => by obtain ⟨x, hx, _⟩ := Maps.keyOf_str Tryd.underlying9 hk; exact ⟨x, hx⟩) (fun v y hv => by obtain ⟨c, rfl, _⟩ := plainElem_int_inv Tryd.underlying21 hv; exact ⟨c, rfl⟩) w.heap.size w1.heap.size 5 Rf.nmD left cnt rfl hrg ?_ ?_))
    · intro h0 hl
      obtain rfl : left = fun _ => false := funext hl
      have hnm := Rf.nm_none (f := f) (n := n) (fun e he => hno.out e he rfl)
      have hmx := Rf.mxN_le f n (fun _ => false) Rf.nmT (fun e he => (Rf.nm_len he).1)
      obtain ⟨X, hX⟩ : ∃ X, Rf.mxN f n (fun _ => false) Rf.nmT = X := ⟨_, rfl⟩
      rw [hX] at hnm hmx ⊢
      clear hX hno hle hrg cC hl
      by_cases hq : X = n
      · rw [if_pos hq] at hnm
        have g1 : ((X : Int) == (n : Int)) = true := by simp; omega
        clear hq
        go_wp2
        refine bodyPost_ret (v := Rf.rdV (0, 0, 1)) (by simp [Rf.rdV, results, Tryd.results10, go_sem]) rfl ⟨by rw [hnm], hB⟩
      · rw [if_neg hq] at hnm
        have g1 : ((X : Int) == (n : Int)) = false := by simp; omega
        clear hq
        go_wp2
        refine bodyPost_ret (v := Rf.rdV (0, X, 2)) (by simp [Rf.rdV, results, Tryd.results10, go_sem]) rfl ⟨by rw [hnm], hB⟩
    · intro x c kl yd yp w2 cnt2 hkey hlk hv hat hrg2 hlt hg2 hs2 hen
      obtain ⟨x', ex, rfl, _⟩ := Maps.keyOf_str Tryd.underlying9 hkey
      obtain rfl : x = x' := by
        have h9 : (ByteArray.mk x.toArray) = ⟨x'.toArray⟩ := by simpa using ex
        have h8 : x.toArray = x'.toArray := congrArg ByteArray.data h9
        exact congrArg Array.toList h8
      obtain ⟨e, he, hke⟩ := hle.out _ hlk
      obtain rfl : x = e.1 := by cases hke; rfl
      obtain ⟨c', ec, hy, _⟩ := plainElem_int_inv Tryd.underlying21 hv
      cases ec
      have hce : c = (e.2 : Int) := by
        have h9 := hat .nil
        rw [Rf.at5 e he .nil] at h9
        have h8 : yd = .lit (.int .i32 c) := congrArg Prod.fst hy
        rw [h8] at h9
        cases h9
        rfl
      subst hce
      have hB2 : Below w.heap.size w w2 := hB.grown hg2 hB.size (fun j hj => by cases hj; exact hsr)
      obtain ⟨hl4, hl100⟩ := Rf.nm_len he
      have hst := Rf.mxN_step f n left e.1 hlk Rf.nmT
      rw [if_pos ⟨e, he, rfl⟩] at hst
      have hmx := Rf.mxN_le f n left Rf.nmT (fun e he => (Rf.nm_len he).1)
      have hcl := Rf.cmn_le f n e.1
      have hfull := fun h => Rf.nm_full (f := f) (n := n) he h
      have cM := cC (Rf.whl e.1) w2 hB2
      rw [show Rf.cp f n (Rf.whl e.1) 0 = Rf.cmn f n e.1 from rfl] at cM
      have hno2 : ¬ Rf.cmn f n e.1 = e.1.length + 2 → ∀ e' ∈ Rf.nmT, (left (.string e'.1) && !(Lit.string e'.1).sameKey (.string e.1)) = false → ¬ Rf.cmn f n e'.1 = e'.1.length + 2 := by
        intro hnf e' he' hf
        by_cases hq : left (.string e'.1) = true
        · rw [hq] at hf
          have : e'.1 = e.1 := by simpa [Lit.sameKey] using hf
          rw [this]
          exact hnf
        · exact hno.out e' he' (by simpa using hq)
      have hle2 : ∀ kl, (left kl && !kl.sameKey (.string e.1)) = true → ∃ e ∈ Rf.nmT, kl = .string e.1 := fun kl h => hle.out kl (by simp at h; exact h.1)
      obtain ⟨P, hP⟩ : ∃ P : List UInt8, P = [38] ++ e.1 := ⟨_, rfl⟩
      obtain ⟨U, hU⟩ : ∃ U : List UInt8, U = Rf.whl e.1 := ⟨_, rfl⟩
      have ha1 : (ByteArray.mk #[38]) ++ ⟨e.1.toArray⟩ = ⟨P.toArray⟩ := by rw [hP]; exact strAppend [38] e.1
      have ha2 : (ByteArray.mk P.toArray) ++ ⟨#[59]⟩ = ⟨U.toArray⟩ := by rw [hU, hP]; exact (strAppend ([38] ++ e.1) [59]).trans (by simp [Rf.whl])
      have hlU : U.length = e.1.length + 2 := by rw [hU]; simp [Rf.whl]
      have hlP : P.length = e.1.length + 1 := by rw [hP]; simp
      rw [← hU] at cM
      obtain ⟨m, hm⟩ : ∃ m, Rf.cmn f n e.1 = m := ⟨_, rfl⟩
      rw [hm] at cM hst hcl hfull hno2
      obtain ⟨z, hz⟩ : ∃ z, e.1.length = z := ⟨_, rfl⟩
      rw [hz] at hlU hlP hl4 hfull hno2 hcl
      have gU : U.length = z + 2 := hlU
      have HRG := hide' hrg2
      have HOLD := hide' hrg
      have HST := hide' hst
      have HN2 := hide' hno2
      have HL2 := hide' hle2
      have HF := hide' hfull
      have g1 : 1 + z ≤ 9223372036854775807 := by omega
      have g2 : P.length + 1 ≤ 9223372036854775807 := by omega
      obtain ⟨X, hX⟩ : ∃ X, Rf.mxN f n left Rf.nmT = X := ⟨_, rfl⟩
      rw [hX] at hmx ⊢
      have HX := hide' hX
      clear hkey hlk hv hat hrg2 hg2 hs2 hrg hno hle ex hke hy cC hst hno2 hle2 hfull hP hU hm hX hB
      go_wp2_with fail
      refine cM.mono ?_
      rintro e0 w3 ⟨rfl, hb3⟩
      have hB3 := hB2.trans (hb3.mono hB2.size)
      clear cM hen
      by_cases hq : m = z + 2
      · have g3 : ((m : Int) == (z : Int) + 2) = true := by simp; omega
        have g4 : ((m : Int) == ((z + 2 : Nat) : Int)) = true := by simp; omega
        have hnm := HF.out hq
        have HQ := hide' hq
        clear hq
        go_wp2
        refine bodyPost_ret (v := Rf.rdV (e.2, m, 0)) (by simp [Rf.rdV, results, Tryd.results10, go_sem]) rfl ⟨?_, hB3⟩
        rw [hnm, HQ.out]
      · have g3 : ((m : Int) == (z : Int) + 2) = false := by simp; omega
        have hgr : w2.grownBy w3 none := ⟨hb3.os, hb3.tape, hb3.output, hb3.size, fun k hk _ => hb3.block k hk⟩
        have hrg3 := HRG.out.kept hgr (by simp) (by simp)
        have HR3 := hide' hrg3
        clear hrg3
        have HNF := hide' (HN2.out hq)
        clear hq
        go_wp2
        refine ⟨⟨_, cnt2, congrArg (Value.int .i64) ?_, HR3.out, HNF.out, HL2.out, hB3⟩, by rw [HR3.out.left_eq, HOLD.out.left_eq]; exact hlt⟩
        rw [HST.out, HX.out]
        omega
end Go.Proofs.YtbbbokkfhfmoeabDoor
