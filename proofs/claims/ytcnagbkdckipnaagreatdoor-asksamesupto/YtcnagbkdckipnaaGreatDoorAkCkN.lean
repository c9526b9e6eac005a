import Derived.Test.YtcnagbkdckipnaaGreatDoorAkQu
/-
  WHAT the survey of a path comes to, as pure functions; WALKS over its small functions.
-/
namespace Go.Proofs.YtcnagbkdckipnaaGreatDoor
open Go.RowKit Go.Lib Go.Sort
namespace Ak
/-- is the string empty? -/
def em (s : ByteArray) : Bool := s.toList.isEmpty
/-- a test and its name -/
def tstB (NB : ByteArray → Bool) (te : Int) (nm : ByteArray) : Bool := if te = 0 then NB nm else decide (1 ≤ te) && (decide (te ≤ 3) && em nm)
/-- all that Some alone has is zero -/
def aoB (sl : Nat) (aa : ByteArray) (cm : Int) (tx : ByteArray) (nu : Int) : Bool := decide (sl = 0) && (em aa && (decide (cm = 0) && (em tx && decide (nu = 0))))
/-- the comparison is one -/
def cpB (QB : ByteArray → Bool) (cm : Int) (tx : ByteArray) (nu : Int) : Bool :=
  if cm = 0 then em tx && decide (nu = 0) else if 1 ≤ cm ∧ cm ≤ 5 then decide (nu = 0) && QB tx else if 6 ≤ cm ∧ cm ≤ 8 then em tx && (decide (0 ≤ nu) && decide (nu ≤ 1000000)) else false
def cbC (cm : Int) : Nat := if 3 ≤ cm then 1 else 0
def nbB (wh pt : Int) : Bool := decide (pt = 1) || (decide (pt = 0) && decide (wh = 0))
def opX : Xp → Int | .mk op _ _ _ _ _ _ => op
/-- what was found: the size, the nesting -/
abbrev Sy := Int × Nat
def inc (s : Sy) : Sy := (wrap64 (s.1 + 1), s.2)
def mxS (br : Nat) (s : Sy) : Sy := (s.1, max s.2 br)
mutual
def stepC (NB QB : ByteArray → Bool) : Sp → Nat → Sy → Option Sy
  | .mk ax te nm wh, br, s => if (0 ≤ ax ∧ ax ≤ 3) ∧ tstB NB te nm = true then listC NB QB wh (br + 1) (inc s) else none
def listC (NB QB : ByteArray → Bool) : List Xp → Nat → Sy → Option Sy
  | [], _, s => some s
  | a :: l, br, s => (exprC NB QB a br s).bind (listC NB QB l br)
def partC (NB QB : ByteArray → Bool) (op : Int) : List Xp → Nat → Sy → Option Sy
  | [], _, s => some s
  | a :: l, br, s => (exprC NB QB a (br + (nbB op (opX a)).toNat) s).bind (partC NB QB op l br)
def exprC (NB QB : ByteArray → Bool) : Xp → Nat → Sy → Option Sy
  | .mk op ar st aa cm tx nu, br, s => if br ≤ 200 then
      (if op = 0 ∨ op = 1 then (if 2 ≤ ar.length ∧ aoB st.length aa cm tx nu = true then partC NB QB op ar br (mxS br (inc s)) else none)
      else if op = 2 then (if ar.length = 1 ∧ aoB st.length aa cm tx nu = true then listC NB QB ar (br + 1) (mxS br (inc s)) else none)
      else if op = 3 then (if (ar.length = 0 ∧ (em aa || NB aa) = true ∧ cpB QB cm tx nu = true) ∧ st.length ≠ 0 ∧ br + cbC cm ≤ 200 then stepsC NB QB st (br + cbC cm) (mxS (br + cbC cm) (mxS br (inc s))) else none)
      else none)
    else none
def stepsC (NB QB : ByteArray → Bool) : List Sp → Nat → Sy → Option Sy
  | [], _, s => some s
  | a :: l, br, s => (stepC NB QB a br s).bind (stepsC NB QB l br)
end
def pathC (NB QB : ByteArray → Bool) (l : List Sp) (br : Nat) (s : Sy) : Option Sy := if l.length ≠ 0 ∧ br ≤ 200 then stepsC NB QB l br (mxS br s) else none
/-- the survey in memory -/
def SvC (W : World) (b : Nat) (s : Sy) : Prop := W.heap[b]? = some (.cells #[.int .i64 s.1, .int .i64 (s.2 : Nat)] 160 (0, 0))
theorem SvC.lt {W : World} {b : Nat} {s : Sy} (h : SvC W b s) : b < W.heap.size := (Array.getElem?_eq_some_iff.1 h).1
theorem SvC.below {W W' : World} {b : Nat} {s : Sy} (h : SvC W b s) (hb : Below W.heap.size W W') : SvC W' b s := (hb.block b h.lt).trans h
/-- what a part of it answers -/
def ChE (b : Nat) (W : World) : Option Sy → Ending → World → Prop
  | some s, r, w' => r = .returned (.bool true) ∧ Pb b W w' ∧ SvC w' b s
  | none, r, w' => r = .returned (.bool false) ∧ Pb b W w'
theorem ChE.pre {b : Nat} {W W1 : World} {R : Option Sy} {r : Ending} {w' : World} (h : ChE b W1 R r w') (hp : Pb b W W1) : ChE b W R r w' := by
  cases R with
  | none => exact ⟨h.1, hp.trans h.2⟩
  | some s => exact ⟨h.1, hp.trans h.2.1, h.2.2⟩
/-- the functions beside it that it asks -/
structure CkX (w0 : World) (NB QB : ByteArray → Bool) : Prop where
  nm : ∀ W (s : ByteArray), s.size ≤ 9223372036854775807 → Below w0.heap.size w0 W → Calls Tryz.prog 151 #[.string s] W fun r w' => r = .returned (.bool (NB s)) ∧ Below W.heap.size W w'
  qt : ∀ W (s : ByteArray), s.size ≤ 9223372036854775807 → Below w0.heap.size w0 W → Calls Tryz.prog 167 #[.string s] W fun r w' => r = .returned (.bool (QB s)) ∧ Below W.heap.size W w'
end Ak
set_option maxRecDepth 100000 in
set_option maxHeartbeats 2000000 in
theorem ckReach (W : World) (b : Nat) (s : Ak.Sy) (br : Nat) (h : Ak.SvC W b s) :
    Calls Tryz.prog 127 #[.pointer (some ⟨b, 0, none⟩), .int .i64 (br : Nat)] W fun r w' => r = .returned (.bool (decide (br ≤ 200))) ∧ Ak.Pb b W w' ∧ Ak.SvC w' b (Ak.mxS br s) := by
  obtain ⟨z, k⟩ := s
  have c1 : W.cell? ⟨b, 1, none⟩ = some (.int .i64 (k : Nat)) := by rw [Lib.cell_of_heap h]; rfl
  have f1 : W.frozen? ⟨b, 1, none⟩ = false := Lib.frozen_of_heap h 1
  have hmx : max (k : Int) (br : Int) = ((max k br : Nat) : Int) := by omega
  have HS : Hid (Ak.SvC (W.setCell ⟨b, 1, none⟩ (.int .i64 ((max k br : Nat) : Int))) b (z, max k br)) := hide' (Go.Joins.block_setCell (i := 1) h _)
  clear h
  by_cases hb : br ≤ 200
  · have t1 : (br : Int) ≤ 200 := by omega
    go_enter Tryz.func127, Tryz.ntmps127
    go_wp2_with fail
    go_ret
    exact ⟨by simp [hb], Ak.Pb.set _ _ _ _, HS.out⟩
  · have t1 : ¬ (br : Int) ≤ 200 := by omega
    go_enter Tryz.func127, Tryz.ntmps127
    go_wp2_with fail
    go_ret
    exact ⟨by simp, Ak.Pb.set _ _ _ _, HS.out⟩
set_option maxRecDepth 100000 in
set_option maxHeartbeats 2000000 in
theorem ckIsTest {w0 : World} {NB QB : ByteArray → Bool} (hx : Ak.CkX w0 NB QB) (W : World) (te : Int) (nm : ByteArray) (hz : nm.size ≤ 9223372036854775807) (hb : Below w0.heap.size w0 W) :
    Calls Tryz.prog 135 #[.int .i64 te, .string nm] W fun r w' => r = .returned (.bool (Ak.tstB NB te nm)) ∧ Below W.heap.size W w' := by
  have C := hx.nm W nm hz hb
  unfold Ak.tstB Ak.em
  clear hb hx hz
  by_cases h0 : te = 0
  · subst h0
    rw [if_pos rfl]
    go_enter Tryz.func135, Tryz.ntmps135
    go_wp2_with fail
    refine C.mono ?_
    rintro e w2 ⟨rfl, hb2⟩
    clear C
    go_wp2_with fail
    go_ret
    exact ⟨rfl, hb2⟩
  · rw [if_neg h0]
    clear C
    have g0 : (te == 0) = false := by simpa using h0
    by_cases h1 : 1 ≤ te
    · by_cases h3 : te ≤ 3
      · have d1 : decide (1 ≤ te) = true := decide_eq_true h1
        have d3 : decide (te ≤ 3) = true := decide_eq_true h3
        rw [d1, d3, Bool.true_and, Bool.true_and]
        go_enter Tryz.func135, Tryz.ntmps135
        go_wp2_with fail
        go_ret
        exact ⟨rfl, Below.refl _ _⟩
      · have d3 : decide (te ≤ 3) = false := decide_eq_false h3
        rw [d3, Bool.false_and, Bool.and_false]
        go_enter Tryz.func135, Tryz.ntmps135
        go_wp2_with fail
        go_ret
        exact ⟨rfl, Below.refl _ _⟩
    · have d1 : decide (1 ≤ te) = false := decide_eq_false h1
      rw [d1, Bool.false_and]
      go_enter Tryz.func135, Tryz.ntmps135
      go_wp2_with fail
      go_ret
      exact ⟨rfl, Below.refl _ _⟩
set_option maxRecDepth 100000 in
theorem ckBrackets (W : World) (cm : Int) : Calls Tryz.prog 155 #[.int .i64 cm] W fun r w' => r = .returned (.int .i64 (Ak.cbC cm : Nat)) ∧ Below W.heap.size W w' := by
  unfold Ak.cbC
  by_cases h : 3 ≤ cm
  · rw [if_pos h]
    go_enter Tryz.func155, Tryz.ntmps155
    go_wp2_with fail
    go_ret
    exact ⟨rfl, Below.refl _ _⟩
  · rw [if_neg h]
    go_enter Tryz.func155, Tryz.ntmps155
    go_wp2_with fail
    go_ret
    exact ⟨rfl, Below.refl _ _⟩
set_option maxRecDepth 100000 in
theorem ckNeeds (W : World) (wh pt : Int) : Calls Tryz.prog 137 #[.int .i64 wh, .int .i64 pt] W fun r w' => r = .returned (.bool (Ak.nbB wh pt)) ∧ Below W.heap.size W w' := by
  unfold Ak.nbB
  by_cases h1 : pt = 1
  · subst h1
    go_enter Tryz.func137, Tryz.ntmps137
    go_wp2_with fail
    go_ret
    exact ⟨rfl, Below.refl _ _⟩
  · have g1 : (pt == 1) = false := by simpa using h1
    by_cases h0 : pt = 0
    · subst h0
      by_cases hw : wh = 0
      · subst hw
        go_enter Tryz.func137, Tryz.ntmps137
        go_wp2_with fail
        go_ret
        exact ⟨rfl, Below.refl _ _⟩
      · have gw : (wh == 0) = false := by simpa using hw
        go_enter Tryz.func137, Tryz.ntmps137
        go_wp2_with fail
        go_ret
        exact ⟨by simp [hw], Below.refl _ _⟩
    · have g0 : (pt == 0) = false := by simpa using h0
      go_enter Tryz.func137, Tryz.ntmps137
      go_wp2_with fail
      go_ret
      exact ⟨by simp [h0, h1], Below.refl _ _⟩
end Go.Proofs.YtcnagbkdckipnaaGreatDoor
/-
  WALKS over ask.isArgsOnly, ask.isCompared (gen_akckn.py writes this text).
-/
namespace Go.Proofs.YtcnagbkdckipnaaGreatDoor
open Go.RowKit Go.Lib Go.Sort
set_option maxRecDepth 100000 in
set_option maxHeartbeats 4000000 in
theorem ckArgs (W : World) (op : Int) (p : Option Addr) (l c : Nat) (sp : Option Addr) (sl sc : Nat) (aa : ByteArray) (cm : Int) (tx : ByteArray) (nu : Int) : Calls Tryz.prog 152 #[.agg #[.int .i64 op, .slice p l c, .slice sp sl sc, .string aa, .int .i64 cm, .string tx, .int .i64 nu]] W fun r w' => r = .returned (.bool (Ak.aoB sl aa cm tx nu)) ∧ Below W.heap.size W w' := by
  unfold Ak.aoB Ak.em
  by_cases h1 : sl = 0
  rotate_left
  · have g1 : ((sl : Int) == 0) = false := by simp; omega
    rw [decide_eq_false h1, Bool.false_and]
    go_enter Tryz.func152, Tryz.ntmps152
    go_wp2_with fail
    go_ret
    exact ⟨rfl, (Below.refl _ _).alloc (Nat.le_refl _) _⟩
  subst h1
  rw [show decide ((0 : Nat) = 0) = true from rfl, Bool.true_and]
  obtain ⟨t2, h2⟩ : ∃ t, aa.toList.isEmpty = t := ⟨_, rfl⟩
  rw [h2]
  cases t2
  · rw [Bool.false_and]
    go_enter Tryz.func152, Tryz.ntmps152
    go_wp2_with fail
    go_ret
    exact ⟨rfl, (Below.refl _ _).alloc (Nat.le_refl _) _⟩
  rw [Bool.true_and]
  by_cases h3 : cm = 0
  rotate_left
  · have g3 : (cm == 0) = false := by simpa using h3
    rw [decide_eq_false h3, Bool.false_and]
    go_enter Tryz.func152, Tryz.ntmps152
    go_wp2_with fail
    go_ret
    exact ⟨rfl, (Below.refl _ _).alloc (Nat.le_refl _) _⟩
  subst h3
  rw [show decide ((0 : Int) = 0) = true from rfl, Bool.true_and]
  obtain ⟨t4, h4⟩ : ∃ t, tx.toList.isEmpty = t := ⟨_, rfl⟩
  rw [h4]
  cases t4
  · rw [Bool.false_and]
    go_enter Tryz.func152, Tryz.ntmps152
    go_wp2_with fail
    go_ret
    exact ⟨rfl, (Below.refl _ _).alloc (Nat.le_refl _) _⟩
  rw [Bool.true_and]
  by_cases h5 : nu = 0
  rotate_left
  · have g5 : (nu == 0) = false := by simpa using h5
    rw [decide_eq_false h5]
    go_enter Tryz.func152, Tryz.ntmps152
    go_wp2_with fail
    go_ret
    exact ⟨rfl, (Below.refl _ _).alloc (Nat.le_refl _) _⟩
  subst h5
  go_enter Tryz.func152, Tryz.ntmps152
  go_wp2_with fail
  go_ret
  exact ⟨rfl, (Below.refl _ _).alloc (Nat.le_refl _) _⟩
set_option maxRecDepth 100000 in
set_option maxHeartbeats 8000000 in
theorem ckCmp {w0 : World} {NB QB : ByteArray → Bool} (hx : Ak.CkX w0 NB QB) (W : World) (op : Int) (p : Option Addr) (l c : Nat) (sp : Option Addr) (sl sc : Nat) (aa : ByteArray) (cm : Int) (tx : ByteArray) (nu : Int) (hz : tx.size ≤ 9223372036854775807) (hb : Below w0.heap.size w0 W) : Calls Tryz.prog 154 #[.agg #[.int .i64 op, .slice p l c, .slice sp sl sc, .string aa, .int .i64 cm, .string tx, .int .i64 nu]] W fun r w' => r = .returned (.bool (Ak.cpB QB cm tx nu)) ∧ Below W.heap.size W w' := by
  have hb0 := (Below.refl W.heap.size W).alloc (Nat.le_refl _) (.cells #[.int .i64 op, .slice p l c, .slice sp sl sc, .string aa, .int .i64 cm, .string tx, .int .i64 nu] 121)
  have C := hx.qt (W.alloc (.cells #[.int .i64 op, .slice p l c, .slice sp sl sc, .string aa, .int .i64 cm, .string tx, .int .i64 nu] 121)) tx hz (hb.trans (hb0.mono hb.size))
  unfold Ak.cpB Ak.em
  clear hx hb hz
  by_cases h0 : cm = 0
  · subst h0
    rw [if_pos rfl]
    clear C hb0
    obtain ⟨t2, h2⟩ : ∃ t, tx.toList.isEmpty = t := ⟨_, rfl⟩
    rw [h2]
    cases t2
    · rw [Bool.false_and]
      go_enter Tryz.func154, Tryz.ntmps154
      go_wp2_with fail
      go_ret
      exact ⟨rfl, (Below.refl _ _).alloc (Nat.le_refl _) _⟩
    · rw [Bool.true_and]
      by_cases h5 : nu = 0
      · subst h5
        go_enter Tryz.func154, Tryz.ntmps154
        go_wp2_with fail
        go_ret
        exact ⟨rfl, (Below.refl _ _).alloc (Nat.le_refl _) _⟩
      · have g5 : (nu == 0) = false := by simpa using h5
        rw [decide_eq_false h5]
        go_enter Tryz.func154, Tryz.ntmps154
        go_wp2_with fail
        go_ret
        exact ⟨rfl, (Below.refl _ _).alloc (Nat.le_refl _) _⟩
  rw [if_neg h0]
  by_cases h1 : 1 ≤ cm ∧ cm ≤ 5
  · rw [if_pos h1]
    by_cases h5 : nu = 0
    · subst h5
      rw [show decide ((0 : Int) = 0) = true from rfl, Bool.true_and]
      obtain rfl | rfl | rfl | rfl | rfl : cm = 1 ∨ cm = 2 ∨ cm = 3 ∨ cm = 4 ∨ cm = 5 := by omega
      all_goals
        clear h0 h1
        go_enter Tryz.func154, Tryz.ntmps154
        go_wp2_with fail
        refine C.mono ?_
        rintro e w2 ⟨rfl, hb2⟩
        have HB2 := hide' (hb0.trans (hb2.mono hb0.size))
        clear C hb2 hb0
        go_wp2_with fail
        go_ret
        exact ⟨rfl, HB2.out⟩
    · have g5 : (nu == 0) = false := by simpa using h5
      rw [decide_eq_false h5, Bool.false_and]
      clear C hb0
      obtain rfl | rfl | rfl | rfl | rfl : cm = 1 ∨ cm = 2 ∨ cm = 3 ∨ cm = 4 ∨ cm = 5 := by omega
      all_goals
        clear h0 h1
        go_enter Tryz.func154, Tryz.ntmps154
        go_wp2_with fail
        go_ret
        exact ⟨rfl, (Below.refl _ _).alloc (Nat.le_refl _) _⟩
  rw [if_neg h1]
  clear C hb0
  by_cases h6 : 6 ≤ cm ∧ cm ≤ 8
  · rw [if_pos h6]
    obtain ⟨t2, h2⟩ : ∃ t, tx.toList.isEmpty = t := ⟨_, rfl⟩
    rw [h2]
    cases t2
    · rw [Bool.false_and]
      obtain rfl | rfl | rfl : cm = 6 ∨ cm = 7 ∨ cm = 8 := by omega
      all_goals
        clear h0 h1 h6
        go_enter Tryz.func154, Tryz.ntmps154
        go_wp2_with fail
        go_ret
        exact ⟨rfl, (Below.refl _ _).alloc (Nat.le_refl _) _⟩
    · rw [Bool.true_and]
      by_cases h7 : 0 ≤ nu
      · rw [decide_eq_true h7, Bool.true_and]
        by_cases h8 : nu ≤ 1000000
        · rw [decide_eq_true h8]
          obtain rfl | rfl | rfl : cm = 6 ∨ cm = 7 ∨ cm = 8 := by omega
          all_goals
            clear h0 h1 h6
            go_enter Tryz.func154, Tryz.ntmps154
            go_wp2_with fail
            go_ret
            exact ⟨rfl, (Below.refl _ _).alloc (Nat.le_refl _) _⟩
        · rw [decide_eq_false h8]
          obtain rfl | rfl | rfl : cm = 6 ∨ cm = 7 ∨ cm = 8 := by omega
          all_goals
            clear h0 h1 h6
            go_enter Tryz.func154, Tryz.ntmps154
            go_wp2_with fail
            go_ret
            exact ⟨rfl, (Below.refl _ _).alloc (Nat.le_refl _) _⟩
      · rw [decide_eq_false h7, Bool.false_and]
        obtain rfl | rfl | rfl : cm = 6 ∨ cm = 7 ∨ cm = 8 := by omega
        all_goals
          clear h0 h1 h6
          go_enter Tryz.func154, Tryz.ntmps154
          go_wp2_with fail
          go_ret
          exact ⟨rfl, (Below.refl _ _).alloc (Nat.le_refl _) _⟩
  · rw [if_neg h6]
    have k0 : (cm == 0) = false := by simp; omega
    have k1 : (cm == 1) = false := by simp; omega
    have k2 : (cm == 2) = false := by simp; omega
    have k3 : (cm == 3) = false := by simp; omega
    have k4 : (cm == 4) = false := by simp; omega
    have k5 : (cm == 5) = false := by simp; omega
    have k6 : (cm == 6) = false := by simp; omega
    have k7 : (cm == 7) = false := by simp; omega
    have k8 : (cm == 8) = false := by simp; omega
    clear h0 h1 h6
    go_enter Tryz.func154, Tryz.ntmps154
    go_wp2_with fail
    go_ret
    exact ⟨rfl, (Below.refl _ _).alloc (Nat.le_refl _) _⟩
end Go.Proofs.YtcnagbkdckipnaaGreatDoor
