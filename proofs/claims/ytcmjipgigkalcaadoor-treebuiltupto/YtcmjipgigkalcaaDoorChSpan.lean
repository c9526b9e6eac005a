import Derived.Test.YtcmjipgigkalcaaDoorChFix
/-
  THE WALK over the document's Ranges.
-/
namespace Go.Proofs.YtcmjipgigkalcaaDoor
open Go.RowKit Go.Lib

/-- a slice of ranges, in memory -/
def RgAt (w : World) (v : Value) (l : List (Nat × Nat)) : Prop := ∃ pa cap, v = .slice pa l.length cap ∧ (l = [] ∨ ∃ b o, pa = some ⟨b, o, none⟩ ∧
  ∀ i p, l[i]? = some p → w.cell? ⟨b, o + i * 2, none⟩ = some (.int .i64 (p.1 : Nat)) ∧ w.cell? ⟨b, o + i * 2 + 1, none⟩ = some (.int .i64 (p.2 : Nat)))

theorem RgAt.below {w w' : World} {v : Value} {l : List (Nat × Nat)} {B : Nat} (h : RgAt w v l) (hb : Below B w w') (hB : w.heap.size ≤ B) : RgAt w' v l := by
  obtain ⟨pa, cap, rfl, h⟩ := h
  refine ⟨pa, cap, rfl, ?_⟩
  rcases h with h | ⟨b, o, rfl, hc⟩
  · exact .inl h
  · have k : ∀ {p : Addr} {v}, w.cell? p = some v → w'.cell? p = some v := fun {p v} e => (hb.cell (p := p) (Nat.lt_of_lt_of_le (block_lt_of_cell e) hB)).trans e
    exact .inr ⟨b, o, rfl, fun i p hp => ⟨k (hc i p hp).1, k (hc i p hp).2⟩⟩
def rgCells (l : List (Nat × Nat)) : List Value := l.flatMap fun p => [.int .i64 (p.1 : Nat), .int .i64 (p.2 : Nat)]
theorem rgCells_get : ∀ (l : List (Nat × Nat)) (i : Nat) (p : Nat × Nat), l[i]? = some p → (rgCells l)[i * 2]? = some (.int .i64 (p.1 : Nat)) ∧ (rgCells l)[i * 2 + 1]? = some (.int .i64 (p.2 : Nat))
  | [], i, p, h => by simp at h
  | x :: l, 0, p, h => by
    simp at h
    subst h
    exact ⟨rfl, rfl⟩
  | x :: l, i + 1, p, h => by
    have := rgCells_get l i p (by simpa using h)
    have e : rgCells (x :: l) = .int .i64 (x.1 : Nat) :: .int .i64 (x.2 : Nat) :: rgCells l := rfl
    rw [e, show (i + 1) * 2 = i * 2 + 1 + 1 from by omega]
    exact this
theorem rgAt_alloc (w : World) (l : List (Nat × Nat)) (t : TypeId) (n cap : Nat) (xs : Array Value) (hx : xs = (rgCells l).toArray) (hn : l.length = n) : RgAt (w.alloc (.cells xs t)) (.slice (some ⟨w.heap.size, 0, none⟩) n cap) l := by
  subst hx hn
  refine ⟨_, _, rfl, .inr ⟨_, _, rfl, fun i p hp => ?_⟩⟩
  obtain ⟨h1, h2⟩ := rgCells_get l i p hp
  have e : ∀ j, (w.alloc (.cells (rgCells l).toArray t)).cell? ⟨w.heap.size, j, none⟩ = (rgCells l)[j]? := by
    intro j
    simp
  rw [e, e, Nat.zero_add]
  exact ⟨h1, h2⟩

set_option maxHeartbeats 4000000 in
theorem ranges_any (c : Int) (w : World) :
    Calls Tryd.prog 66 #[.int .i64 c] w fun e w' => ∃ v, e = .returned v ∧ RgAt w' v (Ch.rg c) ∧ Below w.heap.size w w' := by
  rcases Ch.rg_cases c with ⟨rfl, h⟩ | ⟨rfl, h⟩ | ⟨rfl, h⟩ | ⟨rfl, h⟩ | ⟨rfl, h⟩ | ⟨rfl, h⟩ | ⟨hc, h⟩
  · rw [h]
    clear h
    go_enter Tryd.func66, Tryd.ntmps66
    go_wp2
    go_ret
    exact ⟨_, rfl, rgAt_alloc w Ch.rg0 _ _ _ _ rfl rfl, (Below.refl _ _).alloc (Nat.le_refl _) _⟩
  · rw [h]
    clear h
    go_enter Tryd.func66, Tryd.ntmps66
    go_wp2
    go_ret
    exact ⟨_, rfl, rgAt_alloc w Ch.rg1 _ _ _ _ rfl rfl, (Below.refl _ _).alloc (Nat.le_refl _) _⟩
  · rw [h]
    clear h
    go_enter Tryd.func66, Tryd.ntmps66
    go_wp2
    go_ret
    exact ⟨_, rfl, rgAt_alloc w Ch.rg2 _ _ _ _ rfl rfl, (Below.refl _ _).alloc (Nat.le_refl _) _⟩
  · rw [h]
    clear h
    go_enter Tryd.func66, Tryd.ntmps66
    go_wp2
    go_ret
    exact ⟨_, rfl, rgAt_alloc w Ch.rg3 _ _ _ _ rfl rfl, (Below.refl _ _).alloc (Nat.le_refl _) _⟩
  · rw [h]
    clear h
    go_enter Tryd.func66, Tryd.ntmps66
    go_wp2
    go_ret
    exact ⟨_, rfl, rgAt_alloc w Ch.rg4 _ _ _ _ rfl rfl, (Below.refl _ _).alloc (Nat.le_refl _) _⟩
  · rw [h]
    clear h
    go_enter Tryd.func66, Tryd.ntmps66
    go_wp2
    go_ret
    exact ⟨_, rfl, rgAt_alloc w Ch.rg5 _ _ _ _ rfl rfl, (Below.refl _ _).alloc (Nat.le_refl _) _⟩
  · rw [h]
    clear h
    have n0 : (c == 0) = false := by simp; omega
    have n1 : (c == 1) = false := by simp; omega
    have n2 : (c == 2) = false := by simp; omega
    have n3 : (c == 3) = false := by simp; omega
    have n4 : (c == 4) = false := by simp; omega
    have n5 : (c == 5) = false := by simp; omega
    go_enter Tryd.func66, Tryd.ntmps66
    go_wp2
    go_ret
    exact ⟨_, rfl, ⟨none, 0, rfl, .inl rfl⟩, Below.refl _ _⟩

end Go.Proofs.YtcmjipgigkalcaaDoor
/-
  WALKS over the document's Is, Next and Count. (Made by gen_ref.py.)
-/
namespace Go.Proofs.YtcmjipgigkalcaaDoor
open Go.RowKit Go.Lib

namespace Ch
theorem rg_length (c : Int) : (rg c).length ≤ 45 := by
  unfold rg pick
  rw [List.length_map]
  exact Nat.le_trans (List.length_filter_le _ _) (by rw [tab_length]; omega)
theorem rise_small {b : Nat} {l : List (Nat × Nat)} (h : rise b l = true) : ∀ p ∈ l, p.1 ≤ p.2 ∧ p.2 ≤ 1114111 := by
  induction l generalizing b with
  | nil => intro p hp; cases hp
  | cons q t ih =>
    obtain ⟨h1, h2, h3, h4⟩ := rise_cons h
    intro p hp
    rcases List.mem_cons.1 hp with rfl | hp
    · exact ⟨h2, h3⟩
    · exact ih h4 p hp
theorem rg_small (c : Int) : ∀ p ∈ rg c, p.1 ≤ p.2 ∧ p.2 ≤ 1114111 := rise_small (rg_rise c)
theorem isR_cons (p : Nat × Nat) (t : List (Nat × Nat)) (r : Int) : isR (p :: t) r = if (p.1 : Int) ≤ r ∧ r ≤ (p.2 : Int) then true else isR t r := rfl
theorem nextR_cons (p : Nat × Nat) (t : List (Nat × Nat)) (r : Int) : nextR (p :: t) r = if r < (p.2 : Int) then (max (p.1 : Int) (r + 1), true) else nextR t r := rfl
theorem countR_cons (p : Nat × Nat) (t : List (Nat × Nat)) (r : Int) : countR (p :: t) r = (if (p.1 : Int) ≤ r then min (p.2 : Int) r - p.1 + 1 else 0) + countR t r := rfl
end Ch

set_option maxHeartbeats 1000000 in
theorem refIs_any (c r : Int) (w : World) :
    Calls Tryd.prog 52 #[.int .i64 c, .int .i64 r] w fun e w' => e = .returned (.bool (Ch.isR (Ch.rg c) r)) ∧ Below w.heap.size w w' := by
  have cR := ranges_any c w
  have hlen : (Ch.rg c).length ≤ 45 := Ch.rg_length c
  have hL := Ch.rg_small c
  generalize Ch.rg c = L at *
  go_enter Tryd.func52, Tryd.ntmps52
  go_wp2_with fail
  refine cR.mono ?_
  rintro e w1 ⟨v, rfl, hV, hb1⟩
  clear cR
  have hbb := hb1.size
  obtain ⟨pa, cap, rfl, hat⟩ := hV
  go_wp2_with fail
  go_loopw [10] (fun i wr => ∃ k : Nat, i = .int .i64 k ∧ k ≤ L.length ∧ Ch.isR (L.drop k) r = Ch.isR L r ∧ Below w1.heap.size w1 wr) (fun i _ => L.length - (RowKit.intOf i).toNat)
  case atStart => exact ⟨0, rfl, by omega, rfl, Below.refl _ _⟩
  case round =>
    obtain ⟨k, rfl, hk, hd, hB⟩ := hrel
    by_cases hlt : k < L.length
    · rcases hat with h0 | ⟨b, o, rfl, hc⟩
      · subst h0; simp at hlt
      have g1 : (k : Int) < L.length := by omega
      obtain ⟨c1, c2⟩ := hc k _ (List.getElem?_eq_getElem hlt)
      have hsm := hL _ (List.getElem_mem hlt)
      have e1 := (hB.cell (p := ⟨b, o + k * 2, none⟩) (block_lt_of_cell c1)).trans c1
      have e2 := (hB.cell (p := ⟨b, o + k * 2 + 1, none⟩) (block_lt_of_cell c2)).trans c2
      rw [List.drop_eq_getElem_cons hlt, Ch.isR_cons] at hd
      have hbs := hB.size
      generalize L[k] = p at *
      obtain ⟨lo, hi⟩ := p
      simp only at e1 e2 hd hsm
      clear c1 c2 hc
      by_cases q : (lo : Int) ≤ r ∧ r ≤ (hi : Int)
      · rw [if_pos q] at hd
        obtain ⟨q2, q3⟩ := q
        have HD := hide' hd
        clear hd
        go_wp2
        go_ret
        exact ⟨by rw [← HD.out]; rfl, hb1.trans ((hB.alloc hbs _).mono hbb)⟩
      · rw [if_neg q] at hd
        have HD := hide' hd
        clear hd
        by_cases q2 : (lo : Int) ≤ r
        · have q3 : ¬ r ≤ (hi : Int) := fun h => q ⟨q2, h⟩
          clear q
          go_wp2
          go_roundw
          case rel => exact ⟨k + 1, by go_num, by omega, HD.out, hB.alloc hbs _⟩
          case measure => simp [RowKit.intOf]; omega
        · clear q
          go_wp2
          go_roundw
          case rel => exact ⟨k + 1, by go_num, by omega, HD.out, hB.alloc hbs _⟩
          case measure => simp [RowKit.intOf]; omega
    · obtain rfl : k = L.length := by omega
      rw [List.drop_length] at hd
      have HD := hide' hd
      clear hd hat
      go_wp2
      go_ret
      exact ⟨by rw [← HD.out]; rfl, hb1.trans (hB.mono hbb)⟩

end Go.Proofs.YtcmjipgigkalcaaDoor
/-
  THE WALK over the document's Span: the characters whose bytes begin with these.
-/
namespace Go.Proofs.YtcmjipgigkalcaaDoor
open Go.RowKit Go.Lib

namespace Ch
/-- by the first byte: how many bytes there are to be, what it adds, the least number -/
def kdK (x : Nat) : Nat := if x < 128 then 1 else if 192 ≤ x ∧ x < 224 then 2 else if 224 ≤ x ∧ x < 240 then 3 else if 240 ≤ x ∧ x < 248 then 4 else 0
def kdF (x : Nat) : Nat := if x < 128 then x else if 192 ≤ x ∧ x < 224 then x - 192 else if 224 ≤ x ∧ x < 240 then x - 224 else if 240 ≤ x ∧ x < 248 then x - 240 else 0
def kdL (x : Nat) : Nat := if x < 128 then 0 else if 192 ≤ x ∧ x < 224 then 128 else if 224 ≤ x ∧ x < 240 then 2048 else if 240 ≤ x ∧ x < 248 then 65536 else 0
theorem kd_cases (x : Nat) : (x < 128 ∧ kdK x = 1 ∧ kdF x = x ∧ kdL x = 0) ∨ (192 ≤ x ∧ x < 224 ∧ kdK x = 2 ∧ kdF x = x - 192 ∧ kdL x = 128) ∨ (224 ≤ x ∧ x < 240 ∧ kdK x = 3 ∧ kdF x = x - 224 ∧ kdL x = 2048) ∨
    (240 ≤ x ∧ x < 248 ∧ kdK x = 4 ∧ kdF x = x - 240 ∧ kdL x = 65536) ∨ (128 ≤ x ∧ x < 192 ∧ kdK x = 0 ∧ kdF x = 0 ∧ kdL x = 0) ∨ (248 ≤ x ∧ kdK x = 0 ∧ kdF x = 0 ∧ kdL x = 0) := by
  unfold kdK kdF kdL
  repeat' split
  all_goals omega
/-- the number so far, of the bytes up to m -/
def fst (f : Nat → Nat) : Nat → Nat
  | 0 => kdF (f 0)
  | m + 1 => fst f m * 64 + (f (m + 1) - 128)
def tails (f : Nat → Nat) : Nat → Bool
  | 0 => true
  | m + 1 => tails f m && decide (128 ≤ f (m + 1) ∧ f (m + 1) ≤ 191)
theorem tails_le (f : Nat → Nat) {a b : Nat} (h : a ≤ b) (hb : tails f b = true) : tails f a = true := by
  induction b with
  | zero => obtain rfl : a = 0 := by omega
            exact hb
  | succ m ih =>
    by_cases e : a = m + 1
    · rw [e]; exact hb
    · simp only [tails, Bool.and_eq_true] at hb
      exact ih (by omega) hb.1
def up : Nat → Nat → Nat
  | a, 0 => a
  | a, i + 1 => up a i * 64
def dn : Nat → Nat → Nat
  | a, 0 => a
  | a, i + 1 => dn a i * 64 + 63
theorem fst_le (f : Nat → Nat) (hf : ∀ j, f j < 256) : ∀ m, fst f m ≤ 255 * 193 ^ m
  | 0 => by
    have h := hf 0
    have e : fst f 0 = kdF (f 0) := rfl
    rw [e]
    rcases kd_cases (f 0) with h' | h' | h' | h' | h' | h' <;> omega
  | m + 1 => by
    have h := hf (m + 1)
    have e : fst f (m + 1) = fst f m * 64 + (f (m + 1) - 128) := rfl
    have ih := fst_le f hf m
    have p : 193 ^ (m + 1) = 193 ^ m * 193 := Nat.pow_succ ..
    have q : 1 ≤ 193 ^ m := Nat.one_le_pow _ _ (by omega)
    rw [e, p]
    omega
theorem up_dn_le (a : Nat) : ∀ i, up a i ≤ (a + 1) * 64 ^ i ∧ dn a i + 1 = (a + 1) * 64 ^ i
  | 0 => by simp [up, dn]
  | i + 1 => by
    have ih := up_dn_le a i
    have p : 64 ^ (i + 1) = 64 ^ i * 64 := Nat.pow_succ ..
    have e1 : up a (i + 1) = up a i * 64 := rfl
    have e2 : dn a (i + 1) = dn a i * 64 + 63 := rfl
    rw [e1, e2, p, ← Nat.mul_assoc]
    omega
def span (f : Nat → Nat) (n : Nat) : Int × Int :=
  if n = 0 ∨ 4 < n ∨ kdK (f 0) < n then (1, 0) else if tails f (n - 1) then (max (up (fst f (n - 1)) (kdK (f 0) - n) : Int) (kdL (f 0)), min (dn (fst f (n - 1)) (kdK (f 0) - n) : Int) 1114111) else (1, 0)
end Ch

set_option maxRecDepth 100000 in
set_option maxHeartbeats 2000000 in
theorem span_any (f : Nat → Nat) (pa : Option Addr) (n cap : Nat) (w : World) (hf : ∀ j, f j < 256) (hn : n ≤ 9223372036854775807) (hc : n ≤ cap) (hp : n = 0 ∨ ∃ b o, pa = some ⟨b, o, none⟩ ∧ Bytes w b o n f) :
    Calls Tryd.prog 64 #[.slice pa n cap] w fun e w' => e = .returned (.tuple #[.int .i64 (Ch.span f n).1, .int .i64 (Ch.span f n).2]) ∧ Below w.heap.size w w' := by
  by_cases h0 : n = 0
  · subst h0
    clear hp
    go_enter Tryd.func64, Tryd.ntmps64
    go_wp2
    exact bodyPost_ret (v := .tuple #[.int .i64 1, .int .i64 0]) (by simp [results, Tryd.results64, go_sem]) rfl ⟨by simp [Ch.span], Below.refl _ _⟩
  by_cases h4 : 4 < n
  · have n0 : ((n : Int) == 0) = false := by simp; omega
    have n4 : (4 : Int) < n := by omega
    have e : Ch.span f n = (1, 0) := by unfold Ch.span; rw [if_pos (by omega)]
    rw [e]
    clear hp
    go_enter Tryd.func64, Tryd.ntmps64
    go_wp2
    exact bodyPost_ret (v := .tuple #[.int .i64 1, .int .i64 0]) (by simp [results, Tryd.results64, go_sem]) rfl ⟨rfl, Below.refl _ _⟩
  obtain ⟨b, o, rfl, hby⟩ : ∃ b o, pa = some ⟨b, o, none⟩ ∧ Bytes w b o n f := by
    rcases hp with h | h
    · omega
    · exact h
  have n0 : ((n : Int) == 0) = false := by simp; omega
  have n4 : ¬ (4 : Int) < n := by omega
  have n1 : (0 : Int) < n := by omega
  have c0 := hby 0 (by omega)
  rw [Nat.add_zero] at c0
  clear hp n4
  have n4 : n ≤ 4 := by omega
  have n4z : ¬ (4 : Int) < n := by omega
  have hx := hf 0
  have hfb : ∀ m, m ≤ 3 → Ch.fst f m ≤ 2000000000 := by
    intro m hm
    have := Ch.fst_le f hf m
    have : 193 ^ m ≤ 193 ^ 3 := Nat.pow_le_pow_right (by omega) hm
    omega
  rcases Ch.kd_cases (f 0) with ⟨g1, hK, hF, hL⟩ | ⟨g1, g2, hK, hF, hL⟩ | ⟨g1, g2, hK, hF, hL⟩ | ⟨g1, g2, hK, hF, hL⟩ | ⟨g1, g2, hK, hF, hL⟩ | ⟨g1, hK, hF, hL⟩
  · by_cases hgt : 1 < n
    · have e : Ch.span f n = (1, 0) := by unfold Ch.span; rw [if_pos (by omega)]
      rw [e]
      clear e hK hF hL hfb
      generalize f 0 = x at *
      have hgt' : (1 : Int) < n := by omega
      have t1 : (x : Int) < 128 := by omega
      go_enter Tryd.func64, Tryd.ntmps64
      go_wp2
      exact bodyPost_ret (v := .tuple #[.int .i64 1, .int .i64 0]) (by simp [results, Tryd.results64, go_sem]) rfl ⟨rfl, Below.refl _ _⟩
    · have hF0 : Ch.fst f 0 = f 0 := hF
      have HS : Hid (Ch.span f n = if Ch.tails f (n - 1) then (max (Ch.up (Ch.fst f (n - 1)) (1 - n) : Int) (0 : Nat), min (Ch.dn (Ch.fst f (n - 1)) (1 - n) : Int) 1114111) else (1, 0)) := by
        show Ch.span f n = _
        unfold Ch.span
        rw [if_neg (by omega), hK, hL]
      have hF0z : ((Ch.fst f 0 : Nat) : Int) = f 0 := by omega
      clear hK hF hL hF0
      generalize hx0 : f 0 = x at *
      have hgt' : ¬ (1 : Int) < n := by omega
      have t1 : (x : Int) < 128 := by omega
      clear hx0
      by_cases hcap : cap = 1
      · obtain rfl : n = 1 := by omega
        subst hcap
        go_enter Tryd.func64, Tryd.ntmps64
        go_wp2
        go_loop [5, 61] (fun F i => ∃ k : Nat, i = .int .i64 k ∧ k ≤ 1 - 1 ∧ F = .int .i64 (Ch.fst f k : Nat) ∧ Ch.tails f k = true) (fun _ i => 1 - (RowKit.intOf i).toNat)
        case atStart => exact ⟨0, rfl, by omega, by rw [hF0z], rfl⟩
        case round =>
          obtain ⟨k, rfl, hk, rfl, htl⟩ := hrel
          clear hF0z
          obtain rfl : k = 0 := by omega
          have hS := HS.out
          rw [show Ch.tails f (1 - 1) = true from rfl] at hS
          simp only [if_true, Nat.sub_self] at hS
          have HS2 := hide' hS
          have hA := hfb (0) (by omega)
          clear HS hS htl hfb hby
          generalize Ch.fst f 0 = a at *
          have hub : ∀ i, i ≤ 3 → Ch.up a i ≤ 2000000001 * 262144 ∧ Ch.dn a i + 1 ≤ 2000000001 * 262144 := by
            intro i hi
            have h := Ch.up_dn_le a i
            have h2 : 64 ^ i ≤ 64 ^ 3 := Nat.pow_le_pow_right (by omega) hi
            have h3 : (a + 1) * 64 ^ i ≤ 2000000001 * 64 ^ 3 := Nat.mul_le_mul (by omega) h2
            omega
          go_wp2
          go_loop [5, 10, 83] (fun F L i => ∃ j : Nat, i = .int .i64 j ∧ j ≤ 1 - 1 ∧ F = .int .i64 (Ch.up a j : Nat) ∧ L = .int .i64 (Ch.dn a j : Nat)) (fun _ _ i => 1 - 1 - (RowKit.intOf i).toNat)
          case atStart => exact ⟨0, rfl, by omega, rfl, rfl⟩
          case round =>
            obtain ⟨j, rfl, hj, rfl, rfl⟩ := hrel
            by_cases hl2 : j < 1 - 1
            · have l2 : (j : Int) < 1 - (1 : Int) := by omega
              omega
            · obtain rfl : j = 1 - 1 := by omega
              have l2 : ¬ (((1 - 1 : Nat)) : Int) < 1 - (1 : Int) := by omega
              obtain ⟨b1, b2⟩ := hub (1 - 1) (by omega)
              clear hub
              go_wp2
              exact bodyPost_ret (v := .tuple #[.int .i64 (max (Ch.up a (1 - 1) : Int) (0 : Nat)), .int .i64 (min (Ch.dn a (1 - 1) : Int) 1114111)]) (by simp [results, Tryd.results64, go_sem]) rfl ⟨by rw [HS2.out], Below.refl _ _⟩
      · have hcp : 1 < cap := by omega
        clear hcap
        go_enter Tryd.func64, Tryd.ntmps64
        go_wp2
        go_loop [5, 61] (fun F i => ∃ k : Nat, i = .int .i64 k ∧ k ≤ n - 1 ∧ F = .int .i64 (Ch.fst f k : Nat) ∧ Ch.tails f k = true) (fun _ i => n - (RowKit.intOf i).toNat)
        case atStart => exact ⟨0, rfl, by omega, by rw [hF0z], rfl⟩
        case round =>
          obtain ⟨k, rfl, hk, rfl, htl⟩ := hrel
          clear hF0z
          by_cases hlt : k < n - 1
          · have l1 : (k : Int) < (n : Int) - 1 := by omega
            have cy := hby (k + 1) (by omega)
            rw [show o + (k + 1) = o + 1 + k from by omega] at cy
            have hy := hf (k + 1)
            have hfk := hfb k (by omega)
            have HT : Hid (Ch.tails f (k + 1) = (Ch.tails f k && decide (128 ≤ f (k + 1) ∧ f (k + 1) ≤ 191))) := rfl
            have HF : Hid (Ch.fst f (k + 1) = Ch.fst f k * 64 + (f (k + 1) - 128)) := rfl
            have HTL := hide' htl
            clear hby htl
            generalize f (k + 1) = y at *
            have hcase : (y : Int) < 128 ∨ (¬ (y : Int) < 128 ∧ (191 : Int) < y) ∨ (¬ (y : Int) < 128 ∧ ¬ (191 : Int) < y) := by omega
            have hbad : ¬ (128 ≤ y ∧ y ≤ 191) → Ch.span f n = (1, 0) := by
              intro hb
              rw [HS.out]
              cases ht : Ch.tails f (n - 1)
              · simp
              · have := Ch.tails_le f (a := k + 1) (by omega) ht
                rw [HT.out, decide_eq_false hb] at this
                simp at this
            have HB := hide' hbad
            clear hbad
            rcases hcase with u1 | ⟨u1, u2⟩ | ⟨u1, u2⟩
            · go_wp2
              exact bodyPost_ret (v := .tuple #[.int .i64 1, .int .i64 0]) (by simp [results, Tryd.results64, go_sem]) rfl ⟨by rw [HB.out (by omega)], Below.refl _ _⟩
            · go_wp2
              exact bodyPost_ret (v := .tuple #[.int .i64 1, .int .i64 0]) (by simp [results, Tryd.results64, go_sem]) rfl ⟨by rw [HB.out (by omega)], Below.refl _ _⟩
            · go_wp2
              exact ⟨⟨k + 1, by go_num, by omega, congrArg (Value.int .i64) (by rw [HF.out]; omega), by rw [HT.out, HTL.out, decide_eq_true (by omega)]; rfl⟩, by simp [RowKit.intOf]; omega⟩
          · obtain rfl : k = n - 1 := by omega
            have hS := HS.out
            rw [htl] at hS
            simp only [if_true] at hS
            have HS2 := hide' hS
            have hA := hfb (n - 1) (by omega)
            clear HS hS htl hfb hby
            generalize Ch.fst f (n - 1) = a at *
            have hub : ∀ i, i ≤ 3 → Ch.up a i ≤ 2000000001 * 262144 ∧ Ch.dn a i + 1 ≤ 2000000001 * 262144 := by
              intro i hi
              have h := Ch.up_dn_le a i
              have h2 : 64 ^ i ≤ 64 ^ 3 := Nat.pow_le_pow_right (by omega) hi
              have h3 : (a + 1) * 64 ^ i ≤ 2000000001 * 64 ^ 3 := Nat.mul_le_mul (by omega) h2
              omega
            go_wp2
            go_loop [5, 10, 83] (fun F L i => ∃ j : Nat, i = .int .i64 j ∧ j ≤ 1 - n ∧ F = .int .i64 (Ch.up a j : Nat) ∧ L = .int .i64 (Ch.dn a j : Nat)) (fun _ _ i => 1 - n - (RowKit.intOf i).toNat)
            case atStart => exact ⟨0, rfl, by omega, rfl, rfl⟩
            case round =>
              obtain ⟨j, rfl, hj, rfl, rfl⟩ := hrel
              by_cases hl2 : j < 1 - n
              · have l2 : (j : Int) < 1 - (n : Int) := by omega
                omega
              · obtain rfl : j = 1 - n := by omega
                have l2 : ¬ (((1 - n : Nat)) : Int) < 1 - (n : Int) := by omega
                obtain ⟨b1, b2⟩ := hub (1 - n) (by omega)
                clear hub
                go_wp2
                exact bodyPost_ret (v := .tuple #[.int .i64 (max (Ch.up a (1 - n) : Int) (0 : Nat)), .int .i64 (min (Ch.dn a (1 - n) : Int) 1114111)]) (by simp [results, Tryd.results64, go_sem]) rfl ⟨by rw [HS2.out], Below.refl _ _⟩
  · by_cases hgt : 2 < n
    · have e : Ch.span f n = (1, 0) := by unfold Ch.span; rw [if_pos (by omega)]
      rw [e]
      clear e hK hF hL hfb
      generalize f 0 = x at *
      have hgt' : (2 : Int) < n := by omega
      have t1 : ¬ (x : Int) < 128 := by omega
      have ta : (192 : Int) ≤ x := by omega
      have tb : (x : Int) < 224 := by omega
      go_enter Tryd.func64, Tryd.ntmps64
      go_wp2
      exact bodyPost_ret (v := .tuple #[.int .i64 1, .int .i64 0]) (by simp [results, Tryd.results64, go_sem]) rfl ⟨rfl, Below.refl _ _⟩
    · have hF0 : Ch.fst f 0 = f 0 - 192 := hF
      have HS : Hid (Ch.span f n = if Ch.tails f (n - 1) then (max (Ch.up (Ch.fst f (n - 1)) (2 - n) : Int) (128 : Nat), min (Ch.dn (Ch.fst f (n - 1)) (2 - n) : Int) 1114111) else (1, 0)) := by
        show Ch.span f n = _
        unfold Ch.span
        rw [if_neg (by omega), hK, hL]
      have hF0z : ((Ch.fst f 0 : Nat) : Int) = (f 0 : Int) - 192 := by omega
      clear hK hF hL hF0
      generalize hx0 : f 0 = x at *
      have hgt' : ¬ (2 : Int) < n := by omega
      have t1 : ¬ (x : Int) < 128 := by omega
      have ta : (192 : Int) ≤ x := by omega
      have tb : (x : Int) < 224 := by omega
      clear hx0
      by_cases hcap : cap = 1
      · obtain rfl : n = 1 := by omega
        subst hcap
        go_enter Tryd.func64, Tryd.ntmps64
        go_wp2
        go_loop [5, 61] (fun F i => ∃ k : Nat, i = .int .i64 k ∧ k ≤ 1 - 1 ∧ F = .int .i64 (Ch.fst f k : Nat) ∧ Ch.tails f k = true) (fun _ i => 1 - (RowKit.intOf i).toNat)
        case atStart => exact ⟨0, rfl, by omega, by rw [hF0z], rfl⟩
        case round =>
          obtain ⟨k, rfl, hk, rfl, htl⟩ := hrel
          clear hF0z
          obtain rfl : k = 0 := by omega
          have hS := HS.out
          rw [show Ch.tails f (1 - 1) = true from rfl] at hS
          simp only [if_true, Nat.sub_self] at hS
          have HS2 := hide' hS
          have hA := hfb (0) (by omega)
          clear HS hS htl hfb hby
          generalize Ch.fst f 0 = a at *
          have hub : ∀ i, i ≤ 3 → Ch.up a i ≤ 2000000001 * 262144 ∧ Ch.dn a i + 1 ≤ 2000000001 * 262144 := by
            intro i hi
            have h := Ch.up_dn_le a i
            have h2 : 64 ^ i ≤ 64 ^ 3 := Nat.pow_le_pow_right (by omega) hi
            have h3 : (a + 1) * 64 ^ i ≤ 2000000001 * 64 ^ 3 := Nat.mul_le_mul (by omega) h2
            omega
          go_wp2
          go_loop [5, 10, 83] (fun F L i => ∃ j : Nat, i = .int .i64 j ∧ j ≤ 2 - 1 ∧ F = .int .i64 (Ch.up a j : Nat) ∧ L = .int .i64 (Ch.dn a j : Nat)) (fun _ _ i => 2 - 1 - (RowKit.intOf i).toNat)
          case atStart => exact ⟨0, rfl, by omega, rfl, rfl⟩
          case round =>
            obtain ⟨j, rfl, hj, rfl, rfl⟩ := hrel
            by_cases hl2 : j < 2 - 1
            · have l2 : (j : Int) < 2 - (1 : Int) := by omega
              obtain ⟨b1, b2⟩ := hub j (by omega)
              have HU : Hid (Ch.up a (j + 1) = Ch.up a j * 64) := rfl
              have HD : Hid (Ch.dn a (j + 1) = Ch.dn a j * 64 + 63) := rfl
              clear hub
              go_wp2
              exact ⟨⟨j + 1, by go_num, by omega, congrArg (Value.int .i64) (by rw [HU.out]; omega), congrArg (Value.int .i64) (by rw [HD.out]; omega)⟩, by simp [RowKit.intOf]; omega⟩
            · obtain rfl : j = 2 - 1 := by omega
              have l2 : ¬ (((2 - 1 : Nat)) : Int) < 2 - (1 : Int) := by omega
              obtain ⟨b1, b2⟩ := hub (2 - 1) (by omega)
              clear hub
              go_wp2
              exact bodyPost_ret (v := .tuple #[.int .i64 (max (Ch.up a (2 - 1) : Int) (128 : Nat)), .int .i64 (min (Ch.dn a (2 - 1) : Int) 1114111)]) (by simp [results, Tryd.results64, go_sem]) rfl ⟨by rw [HS2.out], Below.refl _ _⟩
      · have hcp : 1 < cap := by omega
        clear hcap
        go_enter Tryd.func64, Tryd.ntmps64
        go_wp2
        go_loop [5, 61] (fun F i => ∃ k : Nat, i = .int .i64 k ∧ k ≤ n - 1 ∧ F = .int .i64 (Ch.fst f k : Nat) ∧ Ch.tails f k = true) (fun _ i => n - (RowKit.intOf i).toNat)
        case atStart => exact ⟨0, rfl, by omega, by rw [hF0z], rfl⟩
        case round =>
          obtain ⟨k, rfl, hk, rfl, htl⟩ := hrel
          clear hF0z
          by_cases hlt : k < n - 1
          · have l1 : (k : Int) < (n : Int) - 1 := by omega
            have cy := hby (k + 1) (by omega)
            rw [show o + (k + 1) = o + 1 + k from by omega] at cy
            have hy := hf (k + 1)
            have hfk := hfb k (by omega)
            have HT : Hid (Ch.tails f (k + 1) = (Ch.tails f k && decide (128 ≤ f (k + 1) ∧ f (k + 1) ≤ 191))) := rfl
            have HF : Hid (Ch.fst f (k + 1) = Ch.fst f k * 64 + (f (k + 1) - 128)) := rfl
            have HTL := hide' htl
            clear hby htl
            generalize f (k + 1) = y at *
            have hcase : (y : Int) < 128 ∨ (¬ (y : Int) < 128 ∧ (191 : Int) < y) ∨ (¬ (y : Int) < 128 ∧ ¬ (191 : Int) < y) := by omega
            have hbad : ¬ (128 ≤ y ∧ y ≤ 191) → Ch.span f n = (1, 0) := by
              intro hb
              rw [HS.out]
              cases ht : Ch.tails f (n - 1)
              · simp
              · have := Ch.tails_le f (a := k + 1) (by omega) ht
                rw [HT.out, decide_eq_false hb] at this
                simp at this
            have HB := hide' hbad
            clear hbad
            rcases hcase with u1 | ⟨u1, u2⟩ | ⟨u1, u2⟩
            · go_wp2
              exact bodyPost_ret (v := .tuple #[.int .i64 1, .int .i64 0]) (by simp [results, Tryd.results64, go_sem]) rfl ⟨by rw [HB.out (by omega)], Below.refl _ _⟩
            · go_wp2
              exact bodyPost_ret (v := .tuple #[.int .i64 1, .int .i64 0]) (by simp [results, Tryd.results64, go_sem]) rfl ⟨by rw [HB.out (by omega)], Below.refl _ _⟩
            · go_wp2
              exact ⟨⟨k + 1, by go_num, by omega, congrArg (Value.int .i64) (by rw [HF.out]; omega), by rw [HT.out, HTL.out, decide_eq_true (by omega)]; rfl⟩, by simp [RowKit.intOf]; omega⟩
          · obtain rfl : k = n - 1 := by omega
            have hS := HS.out
            rw [htl] at hS
            simp only [if_true] at hS
            have HS2 := hide' hS
            have hA := hfb (n - 1) (by omega)
            clear HS hS htl hfb hby
            generalize Ch.fst f (n - 1) = a at *
            have hub : ∀ i, i ≤ 3 → Ch.up a i ≤ 2000000001 * 262144 ∧ Ch.dn a i + 1 ≤ 2000000001 * 262144 := by
              intro i hi
              have h := Ch.up_dn_le a i
              have h2 : 64 ^ i ≤ 64 ^ 3 := Nat.pow_le_pow_right (by omega) hi
              have h3 : (a + 1) * 64 ^ i ≤ 2000000001 * 64 ^ 3 := Nat.mul_le_mul (by omega) h2
              omega
            go_wp2
            go_loop [5, 10, 83] (fun F L i => ∃ j : Nat, i = .int .i64 j ∧ j ≤ 2 - n ∧ F = .int .i64 (Ch.up a j : Nat) ∧ L = .int .i64 (Ch.dn a j : Nat)) (fun _ _ i => 2 - n - (RowKit.intOf i).toNat)
            case atStart => exact ⟨0, rfl, by omega, rfl, rfl⟩
            case round =>
              obtain ⟨j, rfl, hj, rfl, rfl⟩ := hrel
              by_cases hl2 : j < 2 - n
              · have l2 : (j : Int) < 2 - (n : Int) := by omega
                obtain ⟨b1, b2⟩ := hub j (by omega)
                have HU : Hid (Ch.up a (j + 1) = Ch.up a j * 64) := rfl
                have HD : Hid (Ch.dn a (j + 1) = Ch.dn a j * 64 + 63) := rfl
                clear hub
                go_wp2
                exact ⟨⟨j + 1, by go_num, by omega, congrArg (Value.int .i64) (by rw [HU.out]; omega), congrArg (Value.int .i64) (by rw [HD.out]; omega)⟩, by simp [RowKit.intOf]; omega⟩
              · obtain rfl : j = 2 - n := by omega
                have l2 : ¬ (((2 - n : Nat)) : Int) < 2 - (n : Int) := by omega
                obtain ⟨b1, b2⟩ := hub (2 - n) (by omega)
                clear hub
                go_wp2
                exact bodyPost_ret (v := .tuple #[.int .i64 (max (Ch.up a (2 - n) : Int) (128 : Nat)), .int .i64 (min (Ch.dn a (2 - n) : Int) 1114111)]) (by simp [results, Tryd.results64, go_sem]) rfl ⟨by rw [HS2.out], Below.refl _ _⟩
  · by_cases hgt : 3 < n
    · have e : Ch.span f n = (1, 0) := by unfold Ch.span; rw [if_pos (by omega)]
      rw [e]
      clear e hK hF hL hfb
      generalize f 0 = x at *
      have hgt' : (3 : Int) < n := by omega
      have t1 : ¬ (x : Int) < 128 := by omega
      have t2 : ¬ ((x : Int) < 224) := by omega
      have ta : (224 : Int) ≤ x := by omega
      have tb : (x : Int) < 240 := by omega
      have tc : (192 : Int) ≤ x := by omega
      go_enter Tryd.func64, Tryd.ntmps64
      go_wp2
      exact bodyPost_ret (v := .tuple #[.int .i64 1, .int .i64 0]) (by simp [results, Tryd.results64, go_sem]) rfl ⟨rfl, Below.refl _ _⟩
    · have hF0 : Ch.fst f 0 = f 0 - 224 := hF
      have HS : Hid (Ch.span f n = if Ch.tails f (n - 1) then (max (Ch.up (Ch.fst f (n - 1)) (3 - n) : Int) (2048 : Nat), min (Ch.dn (Ch.fst f (n - 1)) (3 - n) : Int) 1114111) else (1, 0)) := by
        show Ch.span f n = _
        unfold Ch.span
        rw [if_neg (by omega), hK, hL]
      have hF0z : ((Ch.fst f 0 : Nat) : Int) = (f 0 : Int) - 224 := by omega
      clear hK hF hL hF0
      generalize hx0 : f 0 = x at *
      have hgt' : ¬ (3 : Int) < n := by omega
      have t1 : ¬ (x : Int) < 128 := by omega
      have t2 : ¬ ((x : Int) < 224) := by omega
      have ta : (224 : Int) ≤ x := by omega
      have tb : (x : Int) < 240 := by omega
      have tc : (192 : Int) ≤ x := by omega
      clear hx0
      by_cases hcap : cap = 1
      · obtain rfl : n = 1 := by omega
        subst hcap
        go_enter Tryd.func64, Tryd.ntmps64
        go_wp2
        go_loop [5, 61] (fun F i => ∃ k : Nat, i = .int .i64 k ∧ k ≤ 1 - 1 ∧ F = .int .i64 (Ch.fst f k : Nat) ∧ Ch.tails f k = true) (fun _ i => 1 - (RowKit.intOf i).toNat)
        case atStart => exact ⟨0, rfl, by omega, by rw [hF0z], rfl⟩
        case round =>
          obtain ⟨k, rfl, hk, rfl, htl⟩ := hrel
          clear hF0z
          obtain rfl : k = 0 := by omega
          have hS := HS.out
          rw [show Ch.tails f (1 - 1) = true from rfl] at hS
          simp only [if_true, Nat.sub_self] at hS
          have HS2 := hide' hS
          have hA := hfb (0) (by omega)
          clear HS hS htl hfb hby
          generalize Ch.fst f 0 = a at *
          have hub : ∀ i, i ≤ 3 → Ch.up a i ≤ 2000000001 * 262144 ∧ Ch.dn a i + 1 ≤ 2000000001 * 262144 := by
            intro i hi
            have h := Ch.up_dn_le a i
            have h2 : 64 ^ i ≤ 64 ^ 3 := Nat.pow_le_pow_right (by omega) hi
            have h3 : (a + 1) * 64 ^ i ≤ 2000000001 * 64 ^ 3 := Nat.mul_le_mul (by omega) h2
            omega
          go_wp2
          go_loop [5, 10, 83] (fun F L i => ∃ j : Nat, i = .int .i64 j ∧ j ≤ 3 - 1 ∧ F = .int .i64 (Ch.up a j : Nat) ∧ L = .int .i64 (Ch.dn a j : Nat)) (fun _ _ i => 3 - 1 - (RowKit.intOf i).toNat)
          case atStart => exact ⟨0, rfl, by omega, rfl, rfl⟩
          case round =>
            obtain ⟨j, rfl, hj, rfl, rfl⟩ := hrel
            by_cases hl2 : j < 3 - 1
            · have l2 : (j : Int) < 3 - (1 : Int) := by omega
              obtain ⟨b1, b2⟩ := hub j (by omega)
              have HU : Hid (Ch.up a (j + 1) = Ch.up a j * 64) := rfl
              have HD : Hid (Ch.dn a (j + 1) = Ch.dn a j * 64 + 63) := rfl
              clear hub
              go_wp2
              exact ⟨⟨j + 1, by go_num, by omega, congrArg (Value.int .i64) (by rw [HU.out]; omega), congrArg (Value.int .i64) (by rw [HD.out]; omega)⟩, by simp [RowKit.intOf]; omega⟩
            · obtain rfl : j = 3 - 1 := by omega
              have l2 : ¬ (((3 - 1 : Nat)) : Int) < 3 - (1 : Int) := by omega
              obtain ⟨b1, b2⟩ := hub (3 - 1) (by omega)
              clear hub
              go_wp2
              exact bodyPost_ret (v := .tuple #[.int .i64 (max (Ch.up a (3 - 1) : Int) (2048 : Nat)), .int .i64 (min (Ch.dn a (3 - 1) : Int) 1114111)]) (by simp [results, Tryd.results64, go_sem]) rfl ⟨by rw [HS2.out], Below.refl _ _⟩
      · have hcp : 1 < cap := by omega
        clear hcap
        go_enter Tryd.func64, Tryd.ntmps64
        go_wp2
        go_loop [5, 61] (fun F i => ∃ k : Nat, i = .int .i64 k ∧ k ≤ n - 1 ∧ F = .int .i64 (Ch.fst f k : Nat) ∧ Ch.tails f k = true) (fun _ i => n - (RowKit.intOf i).toNat)
        case atStart => exact ⟨0, rfl, by omega, by rw [hF0z], rfl⟩
        case round =>
          obtain ⟨k, rfl, hk, rfl, htl⟩ := hrel
          clear hF0z
          by_cases hlt : k < n - 1
          · have l1 : (k : Int) < (n : Int) - 1 := by omega
            have cy := hby (k + 1) (by omega)
            rw [show o + (k + 1) = o + 1 + k from by omega] at cy
            have hy := hf (k + 1)
            have hfk := hfb k (by omega)
            have HT : Hid (Ch.tails f (k + 1) = (Ch.tails f k && decide (128 ≤ f (k + 1) ∧ f (k + 1) ≤ 191))) := rfl
            have HF : Hid (Ch.fst f (k + 1) = Ch.fst f k * 64 + (f (k + 1) - 128)) := rfl
            have HTL := hide' htl
            clear hby htl
            generalize f (k + 1) = y at *
            have hcase : (y : Int) < 128 ∨ (¬ (y : Int) < 128 ∧ (191 : Int) < y) ∨ (¬ (y : Int) < 128 ∧ ¬ (191 : Int) < y) := by omega
            have hbad : ¬ (128 ≤ y ∧ y ≤ 191) → Ch.span f n = (1, 0) := by
              intro hb
              rw [HS.out]
              cases ht : Ch.tails f (n - 1)
              · simp
              · have := Ch.tails_le f (a := k + 1) (by omega) ht
                rw [HT.out, decide_eq_false hb] at this
                simp at this
            have HB := hide' hbad
            clear hbad
            rcases hcase with u1 | ⟨u1, u2⟩ | ⟨u1, u2⟩
            · go_wp2
              exact bodyPost_ret (v := .tuple #[.int .i64 1, .int .i64 0]) (by simp [results, Tryd.results64, go_sem]) rfl ⟨by rw [HB.out (by omega)], Below.refl _ _⟩
            · go_wp2
              exact bodyPost_ret (v := .tuple #[.int .i64 1, .int .i64 0]) (by simp [results, Tryd.results64, go_sem]) rfl ⟨by rw [HB.out (by omega)], Below.refl _ _⟩
            · go_wp2
              exact ⟨⟨k + 1, by go_num, by omega, congrArg (Value.int .i64) (by rw [HF.out]; omega), by rw [HT.out, HTL.out, decide_eq_true (by omega)]; rfl⟩, by simp [RowKit.intOf]; omega⟩
          · obtain rfl : k = n - 1 := by omega
            have hS := HS.out
            rw [htl] at hS
            simp only [if_true] at hS
            have HS2 := hide' hS
            have hA := hfb (n - 1) (by omega)
            clear HS hS htl hfb hby
            generalize Ch.fst f (n - 1) = a at *
            have hub : ∀ i, i ≤ 3 → Ch.up a i ≤ 2000000001 * 262144 ∧ Ch.dn a i + 1 ≤ 2000000001 * 262144 := by
              intro i hi
              have h := Ch.up_dn_le a i
              have h2 : 64 ^ i ≤ 64 ^ 3 := Nat.pow_le_pow_right (by omega) hi
              have h3 : (a + 1) * 64 ^ i ≤ 2000000001 * 64 ^ 3 := Nat.mul_le_mul (by omega) h2
              omega
            go_wp2
            go_loop [5, 10, 83] (fun F L i => ∃ j : Nat, i = .int .i64 j ∧ j ≤ 3 - n ∧ F = .int .i64 (Ch.up a j : Nat) ∧ L = .int .i64 (Ch.dn a j : Nat)) (fun _ _ i => 3 - n - (RowKit.intOf i).toNat)
            case atStart => exact ⟨0, rfl, by omega, rfl, rfl⟩
            case round =>
              obtain ⟨j, rfl, hj, rfl, rfl⟩ := hrel
              by_cases hl2 : j < 3 - n
              · have l2 : (j : Int) < 3 - (n : Int) := by omega
                obtain ⟨b1, b2⟩ := hub j (by omega)
                have HU : Hid (Ch.up a (j + 1) = Ch.up a j * 64) := rfl
                have HD : Hid (Ch.dn a (j + 1) = Ch.dn a j * 64 + 63) := rfl
                clear hub
                go_wp2
                exact ⟨⟨j + 1, by go_num, by omega, congrArg (Value.int .i64) (by rw [HU.out]; omega), congrArg (Value.int .i64) (by rw [HD.out]; omega)⟩, by simp [RowKit.intOf]; omega⟩
              · obtain rfl : j = 3 - n := by omega
                have l2 : ¬ (((3 - n : Nat)) : Int) < 3 - (n : Int) := by omega
                obtain ⟨b1, b2⟩ := hub (3 - n) (by omega)
                clear hub
                go_wp2
                exact bodyPost_ret (v := .tuple #[.int .i64 (max (Ch.up a (3 - n) : Int) (2048 : Nat)), .int .i64 (min (Ch.dn a (3 - n) : Int) 1114111)]) (by simp [results, Tryd.results64, go_sem]) rfl ⟨by rw [HS2.out], Below.refl _ _⟩
  · by_cases hgt : 4 < n
    · omega
    · have hF0 : Ch.fst f 0 = f 0 - 240 := hF
      have HS : Hid (Ch.span f n = if Ch.tails f (n - 1) then (max (Ch.up (Ch.fst f (n - 1)) (4 - n) : Int) (65536 : Nat), min (Ch.dn (Ch.fst f (n - 1)) (4 - n) : Int) 1114111) else (1, 0)) := by
        show Ch.span f n = _
        unfold Ch.span
        rw [if_neg (by omega), hK, hL]
      have hF0z : ((Ch.fst f 0 : Nat) : Int) = (f 0 : Int) - 240 := by omega
      clear hK hF hL hF0
      generalize hx0 : f 0 = x at *
      have hgt' : ¬ (4 : Int) < n := by omega
      have t1 : ¬ (x : Int) < 128 := by omega
      have t2 : ¬ ((x : Int) < 224) := by omega
      have t3 : ¬ ((x : Int) < 240) := by omega
      have ta : (240 : Int) ≤ x := by omega
      have tb : (x : Int) < 248 := by omega
      have tc : (192 : Int) ≤ x := by omega
      have td : (224 : Int) ≤ x := by omega
      clear hx0
      by_cases hcap : cap = 1
      · obtain rfl : n = 1 := by omega
        subst hcap
        go_enter Tryd.func64, Tryd.ntmps64
        go_wp2
        go_loop [5, 61] (fun F i => ∃ k : Nat, i = .int .i64 k ∧ k ≤ 1 - 1 ∧ F = .int .i64 (Ch.fst f k : Nat) ∧ Ch.tails f k = true) (fun _ i => 1 - (RowKit.intOf i).toNat)
        case atStart => exact ⟨0, rfl, by omega, by rw [hF0z], rfl⟩
        case round =>
          obtain ⟨k, rfl, hk, rfl, htl⟩ := hrel
          clear hF0z
          obtain rfl : k = 0 := by omega
          have hS := HS.out
          rw [show Ch.tails f (1 - 1) = true from rfl] at hS
          simp only [if_true, Nat.sub_self] at hS
          have HS2 := hide' hS
          have hA := hfb (0) (by omega)
          clear HS hS htl hfb hby
          generalize Ch.fst f 0 = a at *
          have hub : ∀ i, i ≤ 3 → Ch.up a i ≤ 2000000001 * 262144 ∧ Ch.dn a i + 1 ≤ 2000000001 * 262144 := by
            intro i hi
            have h := Ch.up_dn_le a i
            have h2 : 64 ^ i ≤ 64 ^ 3 := Nat.pow_le_pow_right (by omega) hi
            have h3 : (a + 1) * 64 ^ i ≤ 2000000001 * 64 ^ 3 := Nat.mul_le_mul (by omega) h2
            omega
          go_wp2
          go_loop [5, 10, 83] (fun F L i => ∃ j : Nat, i = .int .i64 j ∧ j ≤ 4 - 1 ∧ F = .int .i64 (Ch.up a j : Nat) ∧ L = .int .i64 (Ch.dn a j : Nat)) (fun _ _ i => 4 - 1 - (RowKit.intOf i).toNat)
          case atStart => exact ⟨0, rfl, by omega, rfl, rfl⟩
          case round =>
            obtain ⟨j, rfl, hj, rfl, rfl⟩ := hrel
            by_cases hl2 : j < 4 - 1
            · have l2 : (j : Int) < 4 - (1 : Int) := by omega
              obtain ⟨b1, b2⟩ := hub j (by omega)
              have HU : Hid (Ch.up a (j + 1) = Ch.up a j * 64) := rfl
              have HD : Hid (Ch.dn a (j + 1) = Ch.dn a j * 64 + 63) := rfl
              clear hub
              go_wp2
              exact ⟨⟨j + 1, by go_num, by omega, congrArg (Value.int .i64) (by rw [HU.out]; omega), congrArg (Value.int .i64) (by rw [HD.out]; omega)⟩, by simp [RowKit.intOf]; omega⟩
            · obtain rfl : j = 4 - 1 := by omega
              have l2 : ¬ (((4 - 1 : Nat)) : Int) < 4 - (1 : Int) := by omega
              obtain ⟨b1, b2⟩ := hub (4 - 1) (by omega)
              clear hub
              go_wp2
              exact bodyPost_ret (v := .tuple #[.int .i64 (max (Ch.up a (4 - 1) : Int) (65536 : Nat)), .int .i64 (min (Ch.dn a (4 - 1) : Int) 1114111)]) (by simp [results, Tryd.results64, go_sem]) rfl ⟨by rw [HS2.out], Below.refl _ _⟩
      · have hcp : 1 < cap := by omega
        clear hcap
        go_enter Tryd.func64, Tryd.ntmps64
        go_wp2
        go_loop [5, 61] (fun F i => ∃ k : Nat, i = .int .i64 k ∧ k ≤ n - 1 ∧ F = .int .i64 (Ch.fst f k : Nat) ∧ Ch.tails f k = true) (fun _ i => n - (RowKit.intOf i).toNat)
        case atStart => exact ⟨0, rfl, by omega, by rw [hF0z], rfl⟩
        case round =>
          obtain ⟨k, rfl, hk, rfl, htl⟩ := hrel
          clear hF0z
          by_cases hlt : k < n - 1
          · have l1 : (k : Int) < (n : Int) - 1 := by omega
            have cy := hby (k + 1) (by omega)
            rw [show o + (k + 1) = o + 1 + k from by omega] at cy
            have hy := hf (k + 1)
            have hfk := hfb k (by omega)
            have HT : Hid (Ch.tails f (k + 1) = (Ch.tails f k && decide (128 ≤ f (k + 1) ∧ f (k + 1) ≤ 191))) := rfl
            have HF : Hid (Ch.fst f (k + 1) = Ch.fst f k * 64 + (f (k + 1) - 128)) := rfl
            have HTL := hide' htl
            clear hby htl
            generalize f (k + 1) = y at *
            have hcase : (y : Int) < 128 ∨ (¬ (y : Int) < 128 ∧ (191 : Int) < y) ∨ (¬ (y : Int) < 128 ∧ ¬ (191 : Int) < y) := by omega
            have hbad : ¬ (128 ≤ y ∧ y ≤ 191) → Ch.span f n = (1, 0) := by
              intro hb
              rw [HS.out]
              cases ht : Ch.tails f (n - 1)
              · simp
              · have := Ch.tails_le f (a := k + 1) (by omega) ht
                rw [HT.out, decide_eq_false hb] at this
                simp at this
            have HB := hide' hbad
            clear hbad
            rcases hcase with u1 | ⟨u1, u2⟩ | ⟨u1, u2⟩
            · go_wp2
              exact bodyPost_ret (v := .tuple #[.int .i64 1, .int .i64 0]) (by simp [results, Tryd.results64, go_sem]) rfl ⟨by rw [HB.out (by omega)], Below.refl _ _⟩
            · go_wp2
              exact bodyPost_ret (v := .tuple #[.int .i64 1, .int .i64 0]) (by simp [results, Tryd.results64, go_sem]) rfl ⟨by rw [HB.out (by omega)], Below.refl _ _⟩
            · go_wp2
              exact ⟨⟨k + 1, by go_num, by omega, congrArg (Value.int .i64) (by rw [HF.out]; omega), by rw [HT.out, HTL.out, decide_eq_true (by omega)]; rfl⟩, by simp [RowKit.intOf]; omega⟩
          · obtain rfl : k = n - 1 := by omega
            have hS := HS.out
            rw [htl] at hS
            simp only [if_true] at hS
            have HS2 := hide' hS
            have hA := hfb (n - 1) (by omega)
            clear HS hS htl hfb hby
            generalize Ch.fst f (n - 1) = a at *
            have hub : ∀ i, i ≤ 3 → Ch.up a i ≤ 2000000001 * 262144 ∧ Ch.dn a i + 1 ≤ 2000000001 * 262144 := by
              intro i hi
              have h := Ch.up_dn_le a i
              have h2 : 64 ^ i ≤ 64 ^ 3 := Nat.pow_le_pow_right (by omega) hi
              have h3 : (a + 1) * 64 ^ i ≤ 2000000001 * 64 ^ 3 := Nat.mul_le_mul (by omega) h2
              omega
            go_wp2
            go_loop [5, 10, 83] (fun F L i => ∃ j : Nat, i = .int .i64 j ∧ j ≤ 4 - n ∧ F = .int .i64 (Ch.up a j : Nat) ∧ L = .int .i64 (Ch.dn a j : Nat)) (fun _ _ i => 4 - n - (RowKit.intOf i).toNat)
            case atStart => exact ⟨0, rfl, by omega, rfl, rfl⟩
            case round =>
              obtain ⟨j, rfl, hj, rfl, rfl⟩ := hrel
              by_cases hl2 : j < 4 - n
              · have l2 : (j : Int) < 4 - (n : Int) := by omega
                obtain ⟨b1, b2⟩ := hub j (by omega)
                have HU : Hid (Ch.up a (j + 1) = Ch.up a j * 64) := rfl
                have HD : Hid (Ch.dn a (j + 1) = Ch.dn a j * 64 + 63) := rfl
                clear hub
                go_wp2
                exact ⟨⟨j + 1, by go_num, by omega, congrArg (Value.int .i64) (by rw [HU.out]; omega), congrArg (Value.int .i64) (by rw [HD.out]; omega)⟩, by simp [RowKit.intOf]; omega⟩
              · obtain rfl : j = 4 - n := by omega
                have l2 : ¬ (((4 - n : Nat)) : Int) < 4 - (n : Int) := by omega
                obtain ⟨b1, b2⟩ := hub (4 - n) (by omega)
                clear hub
                go_wp2
                exact bodyPost_ret (v := .tuple #[.int .i64 (max (Ch.up a (4 - n) : Int) (65536 : Nat)), .int .i64 (min (Ch.dn a (4 - n) : Int) 1114111)]) (by simp [results, Tryd.results64, go_sem]) rfl ⟨by rw [HS2.out], Below.refl _ _⟩
  · have e : Ch.span f n = (1, 0) := by unfold Ch.span; rw [if_pos (by omega)]
    rw [e]
    clear e hK hF hL hfb
    generalize f 0 = x at *
    have t1 : ¬ (x : Int) < 128 := by omega
    have t2 : ¬ (192 : Int) ≤ x := by omega
    have t3 : ¬ (224 : Int) ≤ x := by omega
    have t4 : ¬ (240 : Int) ≤ x := by omega
    go_enter Tryd.func64, Tryd.ntmps64
    go_wp2
    exact bodyPost_ret (v := .tuple #[.int .i64 1, .int .i64 0]) (by simp [results, Tryd.results64, go_sem]) rfl ⟨rfl, Below.refl _ _⟩
  · have e : Ch.span f n = (1, 0) := by unfold Ch.span; rw [if_pos (by omega)]
    rw [e]
    clear e hK hF hL hfb
    generalize f 0 = x at *
    have t1 : ¬ (x : Int) < 128 := by omega
    have t2 : (192 : Int) ≤ x := by omega
    have t3 : (224 : Int) ≤ x := by omega
    have t4 : (240 : Int) ≤ x := by omega
    have t5 : ¬ (x : Int) < 224 := by omega
    have t6 : ¬ (x : Int) < 240 := by omega
    have t7 : ¬ (x : Int) < 248 := by omega
    go_enter Tryd.func64, Tryd.ntmps64
    go_wp2
    exact bodyPost_ret (v := .tuple #[.int .i64 1, .int .i64 0]) (by simp [results, Tryd.results64, go_sem]) rfl ⟨rfl, Below.refl _ _⟩
end Go.Proofs.YtcmjipgigkalcaaDoor
