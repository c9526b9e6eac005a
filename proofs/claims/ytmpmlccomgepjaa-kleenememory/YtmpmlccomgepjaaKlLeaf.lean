/-
  WALKS over kleene's isTruth, ofThree, Not, And, Or, isNone, valueOf, and cmp.Compare, cmp.Or.
-/
import Derived.Test.YtmpmlccomgepjaaKlMem
namespace Go.Proofs.Ytmpmlccomgepjaa
open Go.RowKit Go.Lib Go.Sort
namespace Kl
/-- numbers in a slice -/
def Ts (w : World) (v : Value) (l : List Int) : Prop :=
  ∃ p cap, v = .slice p l.length cap ∧ l.length ≤ cap ∧ cap ≤ 9223372036854775807 ∧ (0 < l.length → ∃ b o, p = some ⟨b, o, none⟩ ∧ ∀ i x, l[i]? = some x → w.cell? ⟨b, o + i, none⟩ = some (.int .i64 x))
theorem Ts.below {w w' : World} {v : Value} {l : List Int} (h : Ts w v l) (hb : Below w.heap.size w w') : Ts w' v l := by
  obtain ⟨p, cap, e, h1, h2, h3⟩ := h
  refine ⟨p, cap, e, h1, h2, fun h0 => ?_⟩
  obtain ⟨b, o, e2, k⟩ := h3 h0
  exact ⟨b, o, e2, fun i x hx => (hb.cell (p := ⟨b, o + i, none⟩) (block_lt_of_cell (k i x hx))).trans (k i x hx)⟩
theorem Ts.none (w : World) : Ts w (.slice none 0 0) [] := ⟨_, 0, rfl, by simp, by simp, by simp⟩
def of3 (x : Int) : Int := if 0 ≤ x ∧ x ≤ 2 then x else 1
def isT (x : Int) : Bool := decide (0 ≤ x ∧ x ≤ 2)
def notT (x : Int) : Int := if x = 0 then 2 else if x = 2 then 0 else 1
def andL (l : List Int) : Int := l.foldl (fun a x => min a (of3 x)) 2
def orL (l : List Int) : Int := l.foldl (fun a x => max a (of3 x)) 0
theorem take_snoc {α : Type} {l : List α} {i : Nat} {x : α} (h : l[i]? = some x) : l.take (i + 1) = l.take i ++ [x] := by
  rw [List.take_add_one, h]; rfl
theorem some_of {α : Type} {l : List α} {i : Nat} (h : i < l.length) : ∃ x, l[i]? = some x := ⟨_, List.getElem?_eq_getElem h⟩
theorem ret_int {k : IntKind} {a b : Int} (h : a = b) : Ending.returned (.int k a) = .returned (.int k b) := by rw [h]
def valL (l : List Int) (n : Int) : Int := if n < l.length then (l[n.toNat]?).getD 1 else 1
end Kl
set_option maxRecDepth 100000 in
theorem klIsTruth (x : Int) (w : World) : Calls Try.prog 38 #[.int .i64 x] w fun e w' => e = .returned (.bool (Kl.isT x)) ∧ w' = w := by
  unfold Kl.isT
  by_cases h0 : 0 ≤ x
  · by_cases h2 : x ≤ 2
    · have e : decide (0 ≤ x ∧ x ≤ 2) = true := by simp [h0, h2]
      rw [e]
      clear e
      go_enter Try.func38, Try.ntmps38
      go_wp2
      go_ret
      exact ⟨rfl, rfl⟩
    · have e : decide (0 ≤ x ∧ x ≤ 2) = false := by simp [h2]
      rw [e]
      clear e
      go_enter Try.func38, Try.ntmps38
      go_wp2
      go_ret
      exact ⟨rfl, rfl⟩
  · have e : decide (0 ≤ x ∧ x ≤ 2) = false := by simp [h0]
    have h0' : x < 0 := by omega
    rw [e]
    clear e h0
    go_enter Try.func38, Try.ntmps38
    go_wp2
    go_ret
    exact ⟨rfl, rfl⟩
set_option maxRecDepth 100000 in
theorem klIsNone (x : Int) (w : World) : Calls Try.prog 25 #[.int .i64 x] w fun e w' => e = .returned (.bool (!Kl.isT x)) ∧ w' = w := by
  have h1 := klIsTruth x w
  generalize Kl.isT x = t at h1 ⊢
  have H1 := hide' h1
  clear h1
  go_enter Try.func25, Try.ntmps25
  go_wp2_with (go_at_call 38; refine H1.out.mono ?_; rintro e w' ⟨rfl, rfl⟩)
  go_ret
  exact ⟨rfl, rfl⟩
set_option maxRecDepth 100000 in
theorem klOfThree (x : Int) (w : World) : Calls Try.prog 23 #[.int .i64 x] w fun e w' => e = .returned (.int .i64 (Kl.of3 x)) ∧ w' = w := by
  have h1 := klIsTruth x w
  unfold Kl.isT at h1
  unfold Kl.of3
  by_cases h : 0 ≤ x ∧ x ≤ 2
  · rw [if_pos h]
    rw [decide_eq_true h] at h1
    have H1 := hide' h1
    clear h1 h
    go_enter Try.func23, Try.ntmps23
    go_wp2_with (go_at_call 38; refine H1.out.mono ?_; rintro e w' ⟨rfl, rfl⟩)
    go_ret
    exact ⟨rfl, rfl⟩
  · rw [if_neg h]
    rw [decide_eq_false h] at h1
    have H1 := hide' h1
    clear h1 h
    go_enter Try.func23, Try.ntmps23
    go_wp2_with (go_at_call 38; refine H1.out.mono ?_; rintro e w' ⟨rfl, rfl⟩)
    go_ret
    exact ⟨rfl, rfl⟩
set_option maxRecDepth 100000 in
theorem klNot (x : Int) (w : World) : Calls Try.prog 15 #[.int .i64 x] w fun e w' => e = .returned (.int .i64 (Kl.notT x)) ∧ w' = w := by
  unfold Kl.notT
  by_cases h0 : x = 0
  · subst h0
    go_enter Try.func15, Try.ntmps15
    go_wp2
    go_ret
    exact ⟨rfl, rfl⟩
  · rw [if_neg h0]
    by_cases h2 : x = 2
    · subst h2
      clear h0
      go_enter Try.func15, Try.ntmps15
      go_wp2
      go_ret
      exact ⟨rfl, rfl⟩
    · rw [if_neg h2]
      have b0 : (x == 0) = false := by simpa using h0
      have b2 : (x == 2) = false := by simpa using h2
      clear h0 h2
      go_enter Try.func15, Try.ntmps15
      go_wp2
      go_ret
      exact ⟨rfl, rfl⟩
set_option maxRecDepth 100000 in
set_option maxHeartbeats 1000000 in
theorem klAnd (v : Value) (l : List Int) (w : World) (h : Kl.Ts w v l) : Calls Try.prog 14 #[v] w fun e w' => e = .returned (.int .i64 (Kl.andL l)) ∧ w' = w := by
  obtain ⟨p, cap, rfl, h1, h2, h3⟩ := h
  obtain ⟨n, hn⟩ : ∃ n, l.length = n := ⟨_, rfl⟩
  rw [hn] at h1 h3 ⊢
  have H3 := hide' h3
  have HN := hide' hn
  clear h3 hn
  go_enter Try.func14, Try.ntmps14
  go_wp2_with fail
  go_loop [3, 8] (fun a b => ∃ i : Nat, i ≤ n ∧ b = .int .i64 i ∧ a = .int .i64 (Kl.andL (l.take i))) (fun _ b => n - (RowKit.intOf b).toNat)
  case atStart => exact ⟨0, Nat.zero_le _, rfl, rfl⟩
  case round =>
    obtain ⟨i, hi, rfl, rfl⟩ := hrel
    by_cases hlt : i < n
    · have t1 : (i : Int) < (n : Int) := by omega
      obtain ⟨b, o, rfl, k⟩ := H3.out (by omega)
      obtain ⟨x, hx⟩ := Kl.some_of (l := l) (i := i) (by rw [HN.out]; exact hlt)
      have c0 := k i x hx
      have hs : Kl.andL (l.take (i + 1)) = min (Kl.andL (l.take i)) (Kl.of3 x) := by rw [Kl.take_snoc hx]; unfold Kl.andL; rw [List.foldl_append]; rfl
      have HS := hide' hs
      have h5 := hide' (klOfThree x w)
      obtain ⟨y, hy⟩ : ∃ y, Kl.of3 x = y := ⟨_, rfl⟩
      obtain ⟨a, ha⟩ : ∃ a, Kl.andL (l.take i) = a := ⟨_, rfl⟩
      rw [hy, ha] at HS
      rw [hy] at h5
      rw [ha]
      clear k hx hs hy ha H3
      go_wp2_with (go_at_call 23; refine h5.out.mono ?_; rintro e w' ⟨rfl, rfl⟩)
      all_goals
        go_round
        case rel => exact ⟨i + 1, by omega, by go_num, by rw [HS.out]⟩
        case measure => simp [RowKit.intOf]; omega
    · have t1 : ¬ (i : Int) < (n : Int) := by omega
      have e : l.take i = l := List.take_of_length_le (by rw [HN.out]; omega)
      rw [e]
      clear H3 e
      go_wp2
      go_ret
      exact ⟨rfl, rfl⟩
set_option maxRecDepth 100000 in
theorem klCmpOpN (x : Int) (w : World) : Calls Try.prog 67 #[.int .i64 x] w fun e w' => e = .returned (.bool false) ∧ w' = w := by
  go_enter Try.func67, Try.ntmps67
  go_wp2
  go_ret
  exact ⟨rfl, rfl⟩
set_option maxRecDepth 100000 in
theorem klCmpOp (x y : Int) (w : World) : Calls Try.prog 42 #[.int .i64 x, .int .i64 y] w fun e w' => e = .returned (.int .i64 (compareInt x y)) ∧ w' = w := by
  unfold compareInt
  by_cases h1 : x < y
  · rw [if_pos h1]
    go_enter Try.func42, Try.ntmps42
    go_wp2_with (go_at_call 67; refine (klCmpOpN _ _).mono ?_; rintro e w' ⟨rfl, rfl⟩)
    go_ret
    exact ⟨rfl, rfl⟩
  · rw [if_neg h1]
    by_cases h2 : x > y
    · rw [if_pos h2]
      have h2' : y < x := h2
      have h1' : y ≤ x := by omega
      clear h1 h2
      go_enter Try.func42, Try.ntmps42
      go_wp2_with (go_at_call 67; refine (klCmpOpN _ _).mono ?_; rintro e w' ⟨rfl, rfl⟩)
      go_ret
      exact ⟨rfl, rfl⟩
    · rw [if_neg h2]
      obtain rfl : x = y := by omega
      clear h1 h2
      go_enter Try.func42, Try.ntmps42
      go_wp2_with (go_at_call 67; refine (klCmpOpN _ _).mono ?_; rintro e w' ⟨rfl, rfl⟩)
      go_ret
      exact ⟨rfl, rfl⟩
set_option maxRecDepth 100000 in
theorem klCmpTrN (x : Int) (w : World) : Calls Try.prog 68 #[.int .i64 x] w fun e w' => e = .returned (.bool false) ∧ w' = w := by
  go_enter Try.func68, Try.ntmps68
  go_wp2
  go_ret
  exact ⟨rfl, rfl⟩
set_option maxRecDepth 100000 in
theorem klCmpTr (x y : Int) (w : World) : Calls Try.prog 43 #[.int .i64 x, .int .i64 y] w fun e w' => e = .returned (.int .i64 (compareInt x y)) ∧ w' = w := by
  unfold compareInt
  by_cases h1 : x < y
  · rw [if_pos h1]
    go_enter Try.func43, Try.ntmps43
    go_wp2_with (go_at_call 68; refine (klCmpTrN _ _).mono ?_; rintro e w' ⟨rfl, rfl⟩)
    go_ret
    exact ⟨rfl, rfl⟩
  · rw [if_neg h1]
    by_cases h2 : x > y
    · rw [if_pos h2]
      have h2' : y < x := h2
      have h1' : y ≤ x := by omega
      clear h1 h2
      go_enter Try.func43, Try.ntmps43
      go_wp2_with (go_at_call 68; refine (klCmpTrN _ _).mono ?_; rintro e w' ⟨rfl, rfl⟩)
      go_ret
      exact ⟨rfl, rfl⟩
    · rw [if_neg h2]
      obtain rfl : x = y := by omega
      clear h1 h2
      go_enter Try.func43, Try.ntmps43
      go_wp2_with (go_at_call 68; refine (klCmpTrN _ _).mono ?_; rintro e w' ⟨rfl, rfl⟩)
      go_ret
      exact ⟨rfl, rfl⟩
set_option maxRecDepth 100000 in
theorem klCmpIntN (x : Int) (w : World) : Calls Try.prog 69 #[.int .i64 x] w fun e w' => e = .returned (.bool false) ∧ w' = w := by
  go_enter Try.func69, Try.ntmps69
  go_wp2
  go_ret
  exact ⟨rfl, rfl⟩
set_option maxRecDepth 100000 in
theorem klCmpInt (x y : Int) (w : World) : Calls Try.prog 44 #[.int .i64 x, .int .i64 y] w fun e w' => e = .returned (.int .i64 (compareInt x y)) ∧ w' = w := by
  unfold compareInt
  by_cases h1 : x < y
  · rw [if_pos h1]
    go_enter Try.func44, Try.ntmps44
    go_wp2_with (go_at_call 69; refine (klCmpIntN _ _).mono ?_; rintro e w' ⟨rfl, rfl⟩)
    go_ret
    exact ⟨rfl, rfl⟩
  · rw [if_neg h1]
    by_cases h2 : x > y
    · rw [if_pos h2]
      have h2' : y < x := h2
      have h1' : y ≤ x := by omega
      clear h1 h2
      go_enter Try.func44, Try.ntmps44
      go_wp2_with (go_at_call 69; refine (klCmpIntN _ _).mono ?_; rintro e w' ⟨rfl, rfl⟩)
      go_ret
      exact ⟨rfl, rfl⟩
    · rw [if_neg h2]
      obtain rfl : x = y := by omega
      clear h1 h2
      go_enter Try.func44, Try.ntmps44
      go_wp2_with (go_at_call 69; refine (klCmpIntN _ _).mono ?_; rintro e w' ⟨rfl, rfl⟩)
      go_ret
      exact ⟨rfl, rfl⟩
set_option maxRecDepth 100000 in
theorem klValueOf (n : Int) (v : Value) (l : List Int) (w : World) (h : Kl.Ts w v l) (h0 : 0 ≤ n) : Calls Try.prog 32 #[.int .i64 n, v] w fun e w' => e = .returned (.int .i64 (Kl.valL l n)) ∧ w' = w := by
  obtain ⟨p, cap, rfl, h1, h2, h3⟩ := h
  unfold Kl.valL
  obtain ⟨m, rfl⟩ : ∃ m : Nat, n = m := ⟨n.toNat, by omega⟩
  obtain ⟨k, hk⟩ : ∃ k, l.length = k := ⟨_, rfl⟩
  rw [hk] at h1 h3 ⊢
  by_cases hlt : m < k
  · rw [if_pos (by omega)]
    obtain ⟨b, o, rfl, kk⟩ := h3 (by omega)
    obtain ⟨x, hx⟩ := Kl.some_of (l := l) (i := m) (by omega)
    have c0 := kk m x hx
    rw [Int.toNat_natCast, hx]
    have t1 : (m : Int) < (k : Int) := by omega
    clear kk h3 hk hx
    show Calls _ _ _ _ fun e w' => e = .returned (.int .i64 x) ∧ w' = w
    go_enter Try.func32, Try.ntmps32
    go_wp2
    go_ret
    exact ⟨rfl, rfl⟩
  · rw [if_neg (by omega)]
    have t1 : ¬ (m : Int) < (k : Int) := by omega
    clear h3 hk
    go_enter Try.func32, Try.ntmps32
    go_wp2
    go_ret
    exact ⟨rfl, rfl⟩
/-- the first that is not zero, from a place on -/
def Kl.frm (a b c : Int) : Nat → Int
  | 0 => Kl.fst3 a b c
  | 1 => if b ≠ 0 then b else c
  | 2 => c
  | _ => 0
set_option maxRecDepth 100000 in
set_option maxHeartbeats 1000000 in
theorem klCmpOr (a b c : Int) (B k : Nat) (w : World) (h0 : w.cell? ⟨B, 0, none⟩ = some (.int .i64 a)) (h1 : w.cell? ⟨B, 1, none⟩ = some (.int .i64 b)) (h2 : w.cell? ⟨B, 2, none⟩ = some (.int .i64 c)) :
    Calls Try.prog 41 #[.slice (some ⟨B, 0, none⟩) 3 k] w fun e w' => e = .returned (.int .i64 (Kl.fst3 a b c)) ∧ w' = w := by
  have hs : ∀ i : Nat, i < 3 → ∃ x, w.cell? ⟨B, 0 + i, none⟩ = some (.int .i64 x) ∧ Kl.frm a b c i = (if x ≠ 0 then x else Kl.frm a b c (i + 1)) := fun i hi => by
    match i, hi with
    | 0, _ => exact ⟨a, h0, rfl⟩
    | 1, _ => exact ⟨b, h1, rfl⟩
    | 2, _ => exact ⟨c, h2, by show c = if c ≠ 0 then c else 0; split <;> omega⟩
  obtain ⟨r, hr⟩ : ∃ r, Kl.fst3 a b c = r := ⟨_, rfl⟩
  obtain ⟨F, hF⟩ : ∃ F : Nat → Int, F = Kl.frm a b c := ⟨_, rfl⟩
  have hF0 : F 0 = r := by rw [hF]; exact hr
  have hF3 : F 3 = 0 := by rw [hF]; rfl
  rw [← hF] at hs
  rw [hr]
  have HS := hide' hs
  have HF0 := hide' hF0
  have HF3 := hide' hF3
  clear hs hF0 hF3 hF hr h0 h1 h2
  go_enter Try.func41, Try.ntmps41
  go_wp2_with fail
  go_loop [8] (fun v => ∃ i : Nat, i ≤ 3 ∧ v = .int .i64 i ∧ Hid (F i = r)) (fun v => 3 - (RowKit.intOf v).toNat)
  case atStart => exact ⟨0, Nat.zero_le _, rfl, HF0⟩
  case round =>
    obtain ⟨i, hi, rfl, HI⟩ := hrel
    by_cases hlt : i < 3
    · have t1 : (i : Int) < 3 := by omega
      obtain ⟨x, c0, hx⟩ := HS.out i hlt
      have HX := hide' hx
      clear hx
      rw [Nat.zero_add] at c0
      by_cases ha : x = 0
      · have hb : (x != 0) = false := by simpa using ha
        have HA := hide' ha
        clear ha
        go_wp2
        go_round
        case rel => exact ⟨i + 1, by omega, by go_num, by have := HX.out; rw [if_neg (by rw [HA.out]; simp)] at this; exact this.symm.trans HI.out⟩
        case measure => simp [RowKit.intOf]; omega
      · have hb : (x != 0) = true := by simpa using ha
        have hr : r = x := by have := HX.out; rw [if_pos ha] at this; exact HI.out.symm.trans this
        subst hr
        clear ha HX HI HF0 HS
        go_wp2
        go_ret
        exact ⟨rfl, rfl⟩
    · have t1 : ¬ (i : Int) < 3 := by omega
      obtain rfl : i = 3 := by omega
      have hr : r = 0 := HI.out.symm.trans HF3.out
      subst hr
      clear HI HF0 HF3 HS
      go_wp2
      go_ret
      exact ⟨rfl, rfl⟩
end Go.Proofs.Ytmpmlccomgepjaa
