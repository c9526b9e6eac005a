/-
  WALKS over errors.Is at a Fault: its Errno is unwrapped and asked.
-/
import Derived.Test.YtgcbhegehbkdgaaDoorRows
import Derived.WalkKit
import Derived.WalkSpells
import Derived.LoopTactic
import Derived.Stop.Asserts
import Derived.Stop.IfaceNil
import Derived.Lib.IfaceEq
import Derived.Test.YtgcbhegehbkdgaaDoorRnBeg
namespace Go.Proofs.YtgcbhegehbkdgaaDoor
open Go.RowKit Go.Lib
namespace Er
/-- is it that error, or of a query's? -/
def isE (t why : Int) : Bool := decide (t = why ∨ (t = 100 ∧ 100 < why ∧ why < 200))
theorem noIsF (v : Value) (xT : TypeId) (w : World) : (Instr.typeAssert (.iface 34 v) xT 114 true).run Tryd.prog w = .ok (.tuple #[.nilIface, .bool false]) w := run_typeAssert_lacksB Tryd.underlying114 (by kernel_rfl) (by kernel_rfl) v xT w
theorem hasUnF (v : Value) (xT : TypeId) (w : World) : (Instr.typeAssert (.iface 34 v) xT 117 true).run Tryd.prog w = .ok (.tuple #[.iface 34 v, .bool true]) w := run_typeAssert_hasB Tryd.underlying117 (by kernel_rfl) v xT w
theorem hasIsE (v : Value) (xT : TypeId) (w : World) : (Instr.typeAssert (.iface 36 v) xT 114 true).run Tryd.prog w = .ok (.tuple #[.iface 36 v, .bool true]) w := run_typeAssert_hasB Tryd.underlying114 (by kernel_rfl) v xT w
theorem noUnE (v : Value) (xT : TypeId) (w : World) : (Instr.typeAssert (.iface 36 v) xT 117 true).run Tryd.prog w = .ok (.tuple #[.nilIface, .bool false]) w := run_typeAssert_lacksB Tryd.underlying117 (by kernel_rfl) (by kernel_rfl) v xT w
theorem noUnsE (v : Value) (xT : TypeId) (w : World) : (Instr.typeAssert (.iface 36 v) xT 119 true).run Tryd.prog w = .ok (.tuple #[.nilIface, .bool false]) w := run_typeAssert_lacksB Tryd.underlying119 (by kernel_rfl) (by kernel_rfl) v xT w
theorem isErrno (x : Int) (xT : TypeId) (w : World) : (Instr.typeAssert (.iface 36 (.int .i64 x)) xT 36 true).run Tryd.prog w = .ok (.tuple #[.int .i64 x, .bool true]) w := by kernel_rfl
theorem mUnF (v : Value) (w : World) : (Go.method 291 34 v "Unwrap").run Tryd.prog w = .ok (113, v) w := by kernel_rfl
theorem mIsE (v : Value) (w : World) : (Go.method 291 36 v "Is").run Tryd.prog w = .ok (115, v) w := by kernel_rfl
theorem tyOf (v : Value) (w : World) : (Extern.ReflectliteType.typeOf #[.iface 36 v]).run Tryd.prog w = .ok (.iface 112 (.agg #[.pointer (some ⟨9, 36, none⟩)])) w := by kernel_rfl
theorem tyCmp (w : World) : (callFunc 122 #[.agg #[.pointer (some ⟨9, 36, none⟩)]]).run Tryd.prog w = .ok (.value (.bool true)) w := by kernel_rfl
theorem mCmp (v : Value) (w : World) : (Go.method 291 112 v "Comparable").run Tryd.prog w = .ok (122, v) w := by kernel_rfl
def mu : Value → Nat
  | .iface t _ => if t = 34 then 1 else 0
  | _ => 0
end Er

set_option maxRecDepth 100000 in
set_option maxHeartbeats 1000000 in
theorem errnoIs_any (why t : Int) (w : World) :
    Calls Tryd.prog 115 #[.int .i64 why, .iface 36 (.int .i64 t)] w fun e w' => e = .returned (.bool (Er.isE t why)) ∧ w' = w := by
  have hA := Er.isErrno t
  unfold Er.isE
  by_cases h1 : t = why
  · subst h1
    have g1 : (t == t) = true := by simp
    go_enter Tryd.func115, Tryd.ntmps115
    go_wp2
    go_ret
    exact ⟨by simp, rfl⟩
  · have g1 : (t == why) = false := by simpa using h1
    by_cases h2 : t = 100
    · have g2 : (t == 100) = true := by simpa using h2
      have H2 := hide' h2
      clear h2
      by_cases h3 : 100 < why
      · have g3 : decide (100 < why) = true := decide_eq_true h3
        by_cases h4 : why < 200
        · go_enter Tryd.func115, Tryd.ntmps115
          go_wp2
          go_ret
          exact ⟨by simp [H2.out, h3, h4], rfl⟩
        · go_enter Tryd.func115, Tryd.ntmps115
          go_wp2
          go_ret
          exact ⟨by simp [h4], rfl⟩
      · have g3 : decide (100 < why) = false := decide_eq_false h3
        go_enter Tryd.func115, Tryd.ntmps115
        go_wp2
        go_ret
        exact ⟨by simp, rfl⟩
    · have g2 : (t == 100) = false := by simpa using h2
      go_enter Tryd.func115, Tryd.ntmps115
      go_wp2
      go_ret
      exact ⟨by simp [h1, h2], rfl⟩

theorem faultUnwrap_any (d : Nat) (a b c e why : Int) (w : World) (h : w.heap[d]? = some (.cells #[.int .i64 a, .int .i64 b, .int .i64 c, .int .i64 e, .int .i64 why] 40 (0, 0))) :
    Calls Tryd.prog 113 #[.pointer (some ⟨d, 0, none⟩)] w fun e w' => e = .returned (.iface 36 (.int .i64 why)) ∧ w' = w := by
  have c4 : w.cell? ⟨d, 4, none⟩ = some (.int .i64 why) := by rw [Lib.cell_of_heap h]; rfl
  have c0 : w.cell? ⟨d, 0, none⟩ = some (.int .i64 a) := by rw [Lib.cell_of_heap h]; rfl
  clear h
  go_enter Tryd.func113, Tryd.ntmps113
  go_wp2
  go_ret
  exact ⟨rfl, rfl⟩

set_option maxRecDepth 100000 in
set_option maxHeartbeats 4000000 in
theorem errorsis_any (d : Nat) (a b c e why t : Int) (w : World) (h : w.heap[d]? = some (.cells #[.int .i64 a, .int .i64 b, .int .i64 c, .int .i64 e, .int .i64 why] 40 (0, 0))) :
    Calls Tryd.prog 30 #[.iface 34 (.pointer (some ⟨d, 0, none⟩)), .iface 36 (.int .i64 t), .bool true] w fun e w' => e = .returned (.bool (Er.isE t why)) ∧ w' = w := by
  have cU := faultUnwrap_any d a b c e why w h
  have cI := errnoIs_any why t w
  have nF := Er.noIsF
  have uF := Er.hasUnF
  have iE := Er.hasIsE
  have nE := Er.noUnE
  have sE := Er.noUnsE
  have hty := run_eql_iface_types (P := Tryd.prog) 34 36 (.pointer (some ⟨d, 0, none⟩)) (.int .i64 t) Tryd.underlying26 (by decide) w
  have hin := Lib.run_eql_iface_int (P := Tryd.prog) w (k := .i64) (tx := 36) why t Tryd.underlying26 (by kernel_rfl) Tryd.underlying36
  have mU := Er.mUnF
  have mI := Er.mIsE
  clear h
  go_enter Tryd.func30, Tryd.ntmps30
  go_wp2
  go_loopw [0] (fun E' wl => wl = w ∧ (E' = .iface 34 (.pointer (some ⟨d, 0, none⟩)) ∨ E' = .iface 36 (.int .i64 why))) (fun E' _ => Er.mu E')
  case atStart => exact ⟨rfl, .inl rfl⟩
  case round =>
    obtain ⟨rfl, rfl | rfl⟩ := hrel
    · clear hin cI iE nE sE mI
      go_wp2_with fail
      refine cU.mono ?_
      rintro e w1 ⟨rfl, rfl⟩
      go_wp2
      exact ⟨⟨by first | rfl | trivial, by first | exact .inr rfl | trivial⟩, by simp [Er.mu]⟩
    · clear hty cU nF uF mU
      by_cases hwt : why = t
      · subst hwt
        have g1 : (why == why) = true := by simp
        clear cI iE nE sE mI
        go_wp2
        go_ret
        exact ⟨by simp [Er.isE], rfl⟩
      · have g1 : (why == t) = false := by simpa using hwt
        cases hE : Er.isE t why
        · rw [hE] at cI
          have HE := hide' hE
          clear hE
          go_wp2_with fail
          refine cI.mono ?_
          rintro e w1 ⟨rfl, rfl⟩
          go_wp2
          go_ret
          exact ⟨by rw [HE.out]; rfl, rfl⟩
        · rw [hE] at cI
          have HE := hide' hE
          clear hE
          go_wp2_with fail
          refine cI.mono ?_
          rintro e w1 ⟨rfl, rfl⟩
          go_wp2
          go_ret
          exact ⟨by rw [HE.out]; rfl, rfl⟩

set_option maxRecDepth 100000 in
set_option maxHeartbeats 4000000 in
theorem errorsIs_any (d : Nat) (a b c e why t : Int) (w : World) (h : w.heap[d]? = some (.cells #[.int .i64 a, .int .i64 b, .int .i64 c, .int .i64 e, .int .i64 why] 40 (0, 0))) :
    Calls Tryd.prog 11 #[.iface 34 (.pointer (some ⟨d, 0, none⟩)), .iface 36 (.int .i64 t)] w fun e w' => e = .returned (.bool (Er.isE t why)) ∧ w' = w := by
  have cI := errorsis_any d a b c e why t w h
  have h8 := @run_callFunc_extern Tryd.prog 29 _ Extern.ReflectliteType.typeOf Tryd.func29 (by kernel_rfl) (by kernel_rfl) (by kernel_rfl) (by kernel_rfl)
  have tT := Er.tyOf
  have cT := Er.tyCmp
  have mR := Er.mCmp
  clear h
  go_enter Tryd.func11, Tryd.ntmps11
  go_wp2_with fail
  refine cI.mono ?_
  rintro e w1 ⟨rfl, rfl⟩
  go_wp2_with fail
  go_ret
  exact ⟨rfl, rfl⟩
end Go.Proofs.YtgcbhegehbkdgaaDoor
