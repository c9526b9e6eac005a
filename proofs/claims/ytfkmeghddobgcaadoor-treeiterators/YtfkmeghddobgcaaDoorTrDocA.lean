/-
  WALKS over tree.isNext, isText, closes, areAttrs, isOpen.
-/
import Derived.Test.YtfkmeghddobgcaaDoorTrEv
import Derived.Deep.QuietTactic
import Derived.BigQuiet
namespace Go.Proofs.YtfkmeghddobgcaaDoor
open Go.RowKit Go.Lib
namespace Tr
/-- what isText says -/
def isTextB (e : Ev Value) : Bool := decide (e.nm.toList = []) && (decide (e.ats.length = 0) && (!decide (e.tx.toList = []) && textB e.tx))
/-- what areAttrs says -/
def atsB : List (ByteArray × ByteArray) → Option ByteArray → Bool
  | [], _ => true
  | x :: l, p => nameB x.1 && (textB x.2 && ((match p with | none => true | some q => !(Op.bytesLess x.1.toList q.toList || x.1.toList == q.toList)) && atsB l (some x.1)))
/-- what isOpen says -/
def isOpenB (e : Ev Value) : Bool := decide (e.tx.toList = []) && (nameB e.nm && atsB e.ats none)
def okB (e : Ev Value) : Bool := if e.kind = 0 then isOpenB e else isTextB e
end Tr
set_option maxHeartbeats 1000000 in
theorem trIsNext (e : Tr.Ev Value) (nd op : Int) (w : World) (h0 : 0 ≤ op) (h1 : op ≤ 4398046511104) :
    Calls Tryd.prog 43 #[.agg e.cs, .int .i64 nd, .int .i64 op] w fun r w' => r = .returned (.bool (e.num == nd && e.dep == op + 1)) ∧ Below w.heap.size w w' := by
  obtain ⟨kind, num, dep, nm, av, ats, tx, fr, be⟩ := e
  show Calls Tryd.prog 43 #[.agg #[.int .i64 kind, .int .i64 num, .int .i64 dep, .string nm, av, .string tx, .int .i64 fr, .int .i64 be], .int .i64 nd, .int .i64 op] w _
  have HB := hide' ((Below.refl w.heap.size w).alloc (Nat.le_refl _) (.cells #[.int .i64 kind, .int .i64 num, .int .i64 dep, .string nm, av, .string tx, .int .i64 fr, .int .i64 be] 39))
  dsimp only
  have hw : IntKind.i64.wrap (op + 1) = op + 1 := by rw [IntKind.wrap_i64]; omega
  clear h0 h1
  cases c1 : (num == nd)
  · go_enter Tryd.func43, Tryd.ntmps43
    go_wp2
    go_ret
    exact ⟨rfl, HB.out⟩
  · go_enter Tryd.func43, Tryd.ntmps43
    go_wp2
    go_ret
    exact ⟨rfl, HB.out⟩
set_option maxHeartbeats 1000000 in
theorem trIsText (e : Tr.Ev Value) (w : World) (hs : e.tx.size ≤ 140737488351232) (hA : Tr.AtRow w e.av e.ats) (hS : Spans w) (hT : Lib.Utf8Tabs 1 2 w) :
    Calls Tryd.prog 45 #[.agg e.cs] w fun r w' => r = .returned (.bool (Tr.isTextB e)) ∧ Below w.heap.size w w' := by
  obtain ⟨kind, num, dep, nm, av, ats, tx, fr, be⟩ := e
  dsimp only at hA
  obtain ⟨p, cap, rfl, _⟩ := hA
  unfold Tr.isTextB
  dsimp only at hs ⊢
  generalize ats.length = n
  show Calls Tryd.prog 45 #[.agg #[.int .i64 kind, .int .i64 num, .int .i64 dep, .string nm, .slice p n cap, .string tx, .int .i64 fr, .int .i64 be]] w _
  have hb := (Below.refl w.heap.size w).alloc (Nat.le_refl _) (.cells #[.int .i64 kind, .int .i64 num, .int .i64 dep, .string nm, .slice p n cap, .string tx, .int .i64 fr, .int .i64 be] 39)
  have c := chTexts tx _ (by omega) (hS.below hb (Nat.le_refl _)) (tabs_below hT hb (Nat.le_refl _))
  have HB := hide' hb
  have HC := hide' c
  clear hS hT hb c hs
  by_cases c1 : nm.toList = []
  · by_cases c2 : n = 0
    · by_cases c3 : tx.toList = []
      · subst c2
        go_enter Tryd.func45, Tryd.ntmps45
        go_wp2
        go_ret
        exact ⟨by simp [c1, c3], HB.out⟩
      · subst c2
        go_enter Tryd.func45, Tryd.ntmps45
        go_wp2_with fail
        refine HC.out.mono ?_
        rintro e w1 ⟨rfl, hb1⟩
        have HD := hide' hb1
        clear hb1 HC
        go_wp2
        go_ret
        exact ⟨by simp [c1, c3], HB.out.trans (HD.out.mono HB.out.size)⟩
    · go_enter Tryd.func45, Tryd.ntmps45
      go_wp2
      go_ret
      exact ⟨by simp [c1, c2], HB.out⟩
  · go_enter Tryd.func45, Tryd.ntmps45
    go_wp2
    go_ret
    exact ⟨by simp [c1], HB.out⟩
set_option maxHeartbeats 1000000 in
theorem trCloses (e o : Tr.Ev Value) (w : World) (hA : Tr.AtRow w e.av e.ats) :
    Calls Tryd.prog 46 #[.agg e.cs, .agg o.cs] w fun r w' => r = .returned (.bool (Tr.closes e o)) ∧ Below w.heap.size w w' := by
  obtain ⟨kind, num, dep, nm, av, ats, tx, fr, be⟩ := e
  obtain ⟨kind', num', dep', nm', av', ats', tx', fr', be'⟩ := o
  dsimp only at hA
  obtain ⟨p, cap, rfl, _⟩ := hA
  unfold Tr.closes
  dsimp only
  generalize ats.length = n
  show Calls Tryd.prog 46 #[.agg #[.int .i64 kind, .int .i64 num, .int .i64 dep, .string nm, .slice p n cap, .string tx, .int .i64 fr, .int .i64 be], .agg #[.int .i64 kind', .int .i64 num', .int .i64 dep', .string nm', av', .string tx', .int .i64 fr', .int .i64 be']] w _
  have HB := hide' (((Below.refl w.heap.size w).alloc (Nat.le_refl _) (.cells #[.int .i64 kind, .int .i64 num, .int .i64 dep, .string nm, .slice p n cap, .string tx, .int .i64 fr, .int .i64 be] 39)).alloc (by simp) (.cells #[.int .i64 kind', .int .i64 num', .int .i64 dep', .string nm', av', .string tx', .int .i64 fr', .int .i64 be'] 39))
  by_cases c0 : num = num'
  · by_cases c1 : dep = dep'
    · by_cases c2 : nm.toList = nm'.toList
      · by_cases c3 : n = 0
        · by_cases c4 : tx.toList = []
          · subst c0 c1 c3
            go_enter Tryd.func46, Tryd.ntmps46
            go_wp2
            go_ret
            exact ⟨by simp [c2, c4], HB.out⟩
          · subst c0 c1 c3
            go_enter Tryd.func46, Tryd.ntmps46
            go_wp2
            go_ret
            exact ⟨by simp [c2, c4], HB.out⟩
        · subst c0 c1
          go_enter Tryd.func46, Tryd.ntmps46
          go_wp2
          go_ret
          exact ⟨by simp [c2, c3], HB.out⟩
      · subst c0 c1
        go_enter Tryd.func46, Tryd.ntmps46
        go_wp2
        go_ret
        exact ⟨by simp [c2], HB.out⟩
    · subst c0
      go_enter Tryd.func46, Tryd.ntmps46
      go_wp2
      go_ret
      exact ⟨by simp [c1], HB.out⟩
  · go_enter Tryd.func46, Tryd.ntmps46
    go_wp2
    go_ret
    exact ⟨by simp [c0], HB.out⟩
end Go.Proofs.YtfkmeghddobgcaaDoor
