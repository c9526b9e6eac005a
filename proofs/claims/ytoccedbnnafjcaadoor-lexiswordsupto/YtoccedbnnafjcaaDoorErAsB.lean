import Derived.Test.YtoccedbnnafjcaaDoorRows
import Derived.WalkKit
import Derived.WalkSpells
import Derived.LoopTactic
import Derived.Stop.Asserts
import Derived.Stop.IfaceNil
import Derived.Lib.IfaceEq
import Derived.Test.YtoccedbnnafjcaaDoorRnEnc
import Derived.Great.BuildSlice
/-
  WALKS over errors.Is at a Fault: its Errno is unwrapped and asked.
-/
namespace Go.Proofs.YtoccedbnnafjcaaDoor
open Go.RowKit Go.Lib
namespace Er
/-- is it that error, or of a query's? -/
def isE (t why : Int) : Bool := decide (t = why ∨ (t = 100 ∧ 100 < why ∧ why < 200))
theorem noIsF (v : Value) (xT : TypeId) (w : World) : (Instr.typeAssert (.iface 34 v) xT 114 true).run Tryd.prog w = .ok (.tuple #[.nilIface, .bool false]) w := run_typeAssert_lacksB Tryd.underlying114 (by kernel_rfl) (by kernel_rfl) v xT w
theorem hasUnF (v : Value) (xT : TypeId) (w : World) : (Instr.typeAssert (.iface 34 v) xT 117 true).run Tryd.prog w = .ok (.tuple #[.iface 34 v, .bool true]) w := run_typeAssert_hasB Tryd.underlying117 (by kernel_rfl) v xT w
theorem hasIsE (v : Value) (xT : TypeId) (w : World) : (Instr.typeAssert (.iface 36 v) xT 114 true).run Tryd.prog w = .ok (.tuple #[.iface 36 v, .bool true]) w := run_typeAssert_hasB Tryd.underlying114 (by kernel_rfl) v xT w
theorem noUnE (v : Value) (xT : TypeId) (w : World) : (Instr.typeAssert (.iface 36 v) xT 117 true).run Tryd.prog w = .ok (.tuple #[.nilIface, .bool false]) w := run_typeAssert_lacksB Tryd.underlying117 (by kernel_rfl) (by kernel_rfl) v xT w
theorem noUnsE (v : Value) (xT : TypeId) (w : World) : (Instr.typeAssert (.iface 36 v) xT 119 true).run Tryd.prog w = .ok (.tuple #[.nilIface, .bool false]) w := run_typeAssert_lacksB Tryd.underlying119 (by kernel_rfl) (by kernel_rfl) v xT w
theorem isErrno (x : Int) (xT : TypeId) (w : World) : (Instr.typeAssert (.iface 36 (.int .i64 x)) xT 36 true).run Tryd.prog w = .ok (.tuple #[.int .i64 x, .bool true]) w := by kernel_rfl
theorem mUnF (v : Value) (w : World) : (Go.method 291 34 v "Unwrap").run Tryd.prog w = .ok (113, v) w := by kernel_rfl
theorem mIsE (v : Value) (w : World) : (Go.method 291 36 v "Is").run Tryd.prog w = .ok (115, v) w := by kernel_rfl
theorem tyOf (v : Value) (w : World) : (Extern.ReflectliteType.typeOf #[.iface 36 v]).run Tryd.prog w = .ok (.iface 112 (.agg #[.pointer (some ⟨9, 36, none⟩)])) w := by kernel_rfl
theorem tyCmp (w : World) : (callFunc 122 #[.agg #[.pointer (some ⟨9, 36, none⟩)]]).run Tryd.prog w = .ok (.value (.bool true)) w := by kernel_rfl
theorem mCmp (v : Value) (w : World) : (Go.method 291 112 v "Comparable").run Tryd.prog w = .ok (122, v) w := by kernel_rfl
def mu : Value → Nat
  | .iface t _ => if t = 34 then 1 else 0
  | _ => 0
end Er

set_option maxRecDepth 100000 in
set_option maxHeartbeats 1000000 in
theorem errnoIs_any (why t : Int) (w : World) :
    Calls Tryd.prog 115 #[.int .i64 why, .iface 36 (.int .i64 t)] w fun e w' => e = .returned (.bool (Er.isE t why)) ∧ w' = w := by
  have hA := Er.isErrno t
  unfold Er.isE
  by_cases h1 : t = why
  · subst h1
    have g1 : (t == t) = true := by simp
    go_enter Tryd.func115, Tryd.ntmps115
    go_wp2
    go_ret
    exact ⟨by simp, rfl⟩
  · have g1 : (t == why) = false := by simpa using h1
    by_cases h2 : t = 100
    · have g2 : (t == 100) = true := by simpa using h2
      have H2 := hide' h2
      clear h2
      by_cases h3 : 100 < why
      · have g3 : decide (100 < why) = true := decide_eq_true h3
        by_cases h4 : why < 200
        · go_enter Tryd.func115, Tryd.ntmps115
          go_wp2
          go_ret
          exact ⟨by simp [H2.out, h3, h4], rfl⟩
        · go_enter Tryd.func115, Tryd.ntmps115
          go_wp2
          go_ret
          exact ⟨by simp [h4], rfl⟩
      · have g3 : decide (100 < why) = false := decide_eq_false h3
        go_enter Tryd.func115, Tryd.ntmps115
        go_wp2
        go_ret
        exact ⟨by simp, rfl⟩
    · have g2 : (t == 100) = false := by simpa using h2
      go_enter Tryd.func115, Tryd.ntmps115
      go_wp2
      go_ret
      exact ⟨by simp [h1, h2], rfl⟩

theorem faultUnwrap_any (d : Nat) (a b c e why : Int) (w : World) (h : w.heap[d]? = some (.cells #[.int .i64 a, .int .i64 b, .int .i64 c, .int .i64 e, .int .i64 why] 40 (0, 0))) :
    Calls Tryd.prog 113 #[.pointer (some ⟨d, 0, none⟩)] w fun e w' => e = .returned (.iface 36 (.int .i64 why)) ∧ w' = w := by
  have c4 : w.cell? ⟨d, 4, none⟩ = some (.int .i64 why) := by rw [Lib.cell_of_heap h]; rfl
  have c0 : w.cell? ⟨d, 0, none⟩ = some (.int .i64 a) := by rw [Lib.cell_of_heap h]; rfl
  clear h
  go_enter Tryd.func113, Tryd.ntmps113
  go_wp2
  go_ret
  exact ⟨rfl, rfl⟩

set_option maxRecDepth 100000 in
set_option maxHeartbeats 4000000 in
theorem errorsis_any (d : Nat) (a b c e why t : Int) (w : World) (h : w.heap[d]? = some (.cells #[.int .i64 a, .int .i64 b, .int .i64 c, .int .i64 e, .int .i64 why] 40 (0, 0))) :
    Calls Tryd.prog 30 #[.iface 34 (.pointer (some ⟨d, 0, none⟩)), .iface 36 (.int .i64 t), .bool true] w fun e w' => e = .returned (.bool (Er.isE t why)) ∧ w' = w := by
  have cU := faultUnwrap_any d a b c e why w h
  have cI := errnoIs_any why t w
  have nF := Er.noIsF
  have uF := Er.hasUnF
  have iE := Er.hasIsE
  have nE := Er.noUnE
  have sE := Er.noUnsE
  have hty := run_eql_iface_types (P := Tryd.prog) 34 36 (.pointer (some ⟨d, 0, none⟩)) (.int .i64 t) Tryd.underlying26 (by decide) w
  have hin := Lib.run_eql_iface_int (P := Tryd.prog) w (k := .i64) (tx := 36) why t Tryd.underlying26 (by kernel_rfl) Tryd.underlying36
  have mU := Er.mUnF
  have mI := Er.mIsE
  clear h
  go_enter Tryd.func30, Tryd.ntmps30
  go_wp2
  go_loopw [0] (fun E' wl => wl = w ∧ (E' = .iface 34 (.pointer (some ⟨d, 0, none⟩)) ∨ E' = .iface 36 (.int .i64 why))) (fun E' _ => Er.mu E')
  case atStart => exact ⟨rfl, .inl rfl⟩
  case round =>
    obtain ⟨rfl, rfl | rfl⟩ := hrel
    · clear hin cI iE nE sE mI
      go_wp2_with fail
      refine cU.mono ?_
      rintro e w1 ⟨rfl, rfl⟩
      go_wp2
      exact ⟨⟨by first | rfl | trivial, by first | exact .inr rfl | trivial⟩, by simp [Er.mu]⟩
    · clear hty cU nF uF mU
      by_cases hwt : why = t
      · subst hwt
        have g1 : (why == why) = true := by simp
        clear cI iE nE sE mI
        go_wp2
        go_ret
        exact ⟨by simp [Er.isE], rfl⟩
      · have g1 : (why == t) = false := by simpa using hwt
        cases hE : Er.isE t why
        · rw [hE] at cI
          have HE := hide' hE
          clear hE
          go_wp2_with fail
          refine cI.mono ?_
          rintro e w1 ⟨rfl, rfl⟩
          go_wp2
          go_ret
          exact ⟨by rw [HE.out]; rfl, rfl⟩
        · rw [hE] at cI
          have HE := hide' hE
          clear hE
          go_wp2_with fail
          refine cI.mono ?_
          rintro e w1 ⟨rfl, rfl⟩
          go_wp2
          go_ret
          exact ⟨by rw [HE.out]; rfl, rfl⟩

set_option maxRecDepth 100000 in
set_option maxHeartbeats 4000000 in
theorem errorsIs_any (d : Nat) (a b c e why t : Int) (w : World) (h : w.heap[d]? = some (.cells #[.int .i64 a, .int .i64 b, .int .i64 c, .int .i64 e, .int .i64 why] 40 (0, 0))) :
    Calls Tryd.prog 11 #[.iface 34 (.pointer (some ⟨d, 0, none⟩)), .iface 36 (.int .i64 t)] w fun e w' => e = .returned (.bool (Er.isE t why)) ∧ w' = w := by
  have cI := errorsis_any d a b c e why t w h
  have h8 := @run_callFunc_extern Tryd.prog 29 _ Extern.ReflectliteType.typeOf Tryd.func29 (by kernel_rfl) (by kernel_rfl) (by kernel_rfl) (by kernel_rfl)
  have tT := Er.tyOf
  have cT := Er.tyCmp
  have mR := Er.mCmp
  clear h
  go_enter Tryd.func11, Tryd.ntmps11
  go_wp2_with fail
  refine cI.mono ?_
  rintro e w1 ⟨rfl, rfl⟩
  go_wp2_with fail
  go_ret
  exact ⟨rfl, rfl⟩
end Go.Proofs.YtoccedbnnafjcaaDoor
/-
  WALKS over errors.As and errors.as at a Fault, the target a *Fault.
-/
namespace Go.Proofs.YtoccedbnnafjcaaDoor
open Go.RowKit Go.Lib
namespace Er
/-- a type's handle -/
abbrev hd (t : TypeId) : Value := .pointer (some ⟨9, t, none⟩)
/-- the library's type of error lies there -/
def ETab (w : World) : Prop := w.cell? ⟨0, 0, none⟩ = some (.iface 112 (.agg #[.pointer (some ⟨9, 26, none⟩)]))
theorem valPP (F : Addr) (w : World) : (callFunc 31 #[.iface 38 (.pointer (some F))]).run Tryd.prog w = .ok (.value (.agg #[.pointer (some ⟨9, 38, none⟩), .pointer (some ⟨w.heap.size, 0, none⟩), .int .u64 150])) (w.alloc (.cells #[.pointer (some F)] 38)) := by kernel_rfl
theorem valP (F : Addr) (w : World) : (callFunc 31 #[.iface 34 (.pointer (some F))]).run Tryd.prog w = .ok (.value (.agg #[.pointer (some ⟨9, 34, none⟩), .pointer (some ⟨w.heap.size, 0, none⟩), .int .u64 150])) (w.alloc (.cells #[.pointer (some F)] 34)) := by kernel_rfl
theorem valType (a : Addr) (w : World) : (callFunc 32 #[.agg #[.pointer (some ⟨9, 38, none⟩), .pointer (some a), .int .u64 150]]).run Tryd.prog w = .ok (.value (.iface 112 (.agg #[.pointer (some ⟨9, 38, none⟩)]))) w := by kernel_rfl
theorem mKind (a : Addr) (w : World) : (Go.method 291 112 (.agg #[.pointer (some a)]) "Kind").run Tryd.prog w = .ok (109, .pointer (some a)) w := by kernel_rfl
theorem kindPP (w : World) : (callFunc 109 #[.pointer (some ⟨9, 38, none⟩)]).run Tryd.prog w = .ok (.value (.int .u8 22)) w := by kernel_rfl
theorem kindP (w : World) : (callFunc 109 #[.pointer (some ⟨9, 34, none⟩)]).run Tryd.prog w = .ok (.value (.int .u8 22)) w := by kernel_rfl
theorem mElem (v : Value) (w : World) : (Go.method 291 112 v "Elem").run Tryd.prog w = .ok (123, v) w := by kernel_rfl
theorem elemPP (w : World) : (callFunc 123 #[.agg #[.pointer (some ⟨9, 38, none⟩)]]).run Tryd.prog w = .ok (.value (.iface 112 (.agg #[.pointer (some ⟨9, 34, none⟩)]))) w := by kernel_rfl
theorem mImpl (v : Value) (w : World) : (Go.method 291 112 v "Implements").run Tryd.prog w = .ok (124, v) w := by kernel_rfl
theorem implP (w : World) : (callFunc 124 #[.agg #[.pointer (some ⟨9, 34, none⟩)], .iface 112 (.agg #[.pointer (some ⟨9, 26, none⟩)])]).run Tryd.prog w = .ok (.value (.bool true)) w := by kernel_rfl
theorem tyP (v : Value) (w : World) : (callFunc 29 #[.iface 34 v]).run Tryd.prog w = .ok (.value (.iface 112 (.agg #[.pointer (some ⟨9, 34, none⟩)]))) w := by kernel_rfl
theorem mAsg (v : Value) (w : World) : (Go.method 291 112 v "AssignableTo").run Tryd.prog w = .ok (121, v) w := by kernel_rfl
theorem asgP (w : World) : (callFunc 121 #[.agg #[.pointer (some ⟨9, 34, none⟩)], .iface 112 (.agg #[.pointer (some ⟨9, 34, none⟩)])]).run Tryd.prog w = .ok (.value (.bool true)) w := by kernel_rfl
end Er
end Go.Proofs.YtoccedbnnafjcaaDoor
/-
  WALKS over errors.As and errors.as at a Fault, the target a *Fault: what reads and writes memory.
-/
namespace Go.Proofs.YtoccedbnnafjcaaDoor
open Go.RowKit Go.Lib
namespace Er
theorem loadPP (b : Nat) (v : Value) (W : World) (h : W.cell? ⟨b, 0, none⟩ = some v) : (loadVar 38 ⟨b, 0, none⟩).run Tryd.prog W = .ok v W := by
  have e : (loadVar 38 ⟨b, 0, none⟩).run Tryd.prog W = (load ⟨b, 0, none⟩).run Tryd.prog W := by kernel_rfl
  rw [e]
  simp [h, go_sem]
theorem loadP (b : Nat) (v : Value) (W : World) (h : W.cell? ⟨b, 0, none⟩ = some v) : (loadVar 34 ⟨b, 0, none⟩).run Tryd.prog W = .ok v W := by
  have e : (loadVar 34 ⟨b, 0, none⟩).run Tryd.prog W = (load ⟨b, 0, none⟩).run Tryd.prog W := by kernel_rfl
  rw [e]
  simp [h, go_sem]
theorem partsPP (a : Addr) (W : World) : (Extern.ReflectliteValue.parts (.agg #[.pointer (some ⟨9, 38, none⟩), .pointer (some a), .int .u64 150])).run Tryd.prog W = .ok (some (38, a, 150)) W := by kernel_rfl
theorem partsP (a : Addr) (W : World) : (Extern.ReflectliteValue.parts (.agg #[.pointer (some ⟨9, 34, none⟩), .pointer (some a), .int .u64 150])).run Tryd.prog W = .ok (some (34, a, 150)) W := by kernel_rfl
theorem partsA (a : Addr) (W : World) : (Extern.ReflectliteValue.parts (.agg #[.pointer (some ⟨9, 34, none⟩), .pointer (some a), .int .u64 406])).run Tryd.prog W = .ok (some (34, a, 406)) W := by kernel_rfl
theorem method_one {z : Sem Value} {f : TypeId → Addr → Nat → Nat → Sem Value} {v : Value} {W : World} {t : TypeId} {a : Addr} {fl : Nat} (hp : (Extern.ReflectliteValue.parts v).run Tryd.prog W = .ok (some (t, a, fl)) W) : (Extern.ReflectliteValue.method z f #[v]).run Tryd.prog W = (f t a fl (fl % 32)).run Tryd.prog W := by
  have e : Extern.ReflectliteValue.method z f #[v] = (Extern.ReflectliteValue.parts v >>= fun o => match o with | none => z | some (t, a, fl) => f t a fl (fl % 32)) := rfl
  rw [e]
  simp [hp]
theorem isNilPP (b : Nat) (F : Addr) (W : World) (h : W.cell? ⟨b, 0, none⟩ = some (.pointer (some F))) : (callFunc 33 #[(.agg #[.pointer (some ⟨9, 38, none⟩), .pointer (some ⟨b, 0, none⟩), .int .u64 150])]).run Tryd.prog W = .ok (.value (.bool false)) W := by
  rw [run_callFunc_extern Tryd.func33 (by kernel_rfl) (by kernel_rfl) (by kernel_rfl) (e := Extern.ReflectliteValue.method (Extern.ReflectliteValue.valueError "reflectlite.Value.IsNil" 0) Extern.ReflectliteValue.isNil) (by kernel_rfl)]
  have l := loadPP b _ W h
  rw [method_one (partsPP ⟨b, 0, none⟩ W)]
  simp [Extern.ReflectliteValue.isNil, l, Result.andThen]
theorem elemVPP (b : Nat) (F : Addr) (W : World) (h : W.cell? ⟨b, 0, none⟩ = some (.pointer (some F))) : (callFunc 55 #[(.agg #[.pointer (some ⟨9, 38, none⟩), .pointer (some ⟨b, 0, none⟩), .int .u64 150])]).run Tryd.prog W = .ok (.value (.agg #[.pointer (some ⟨9, 34, none⟩), .pointer (some F), .int .u64 406])) W := by
  rw [run_callFunc_extern Tryd.func55 (by kernel_rfl) (by kernel_rfl) (by kernel_rfl) (e := Extern.ReflectliteValue.method (Extern.ReflectliteValue.valueError "reflectlite.Value.Elem" 0) Extern.ReflectliteValue.elem) (by kernel_rfl)]
  have l := loadPP b _ W h
  rw [method_one (partsPP ⟨b, 0, none⟩ W)]
  have m : (Extern.ReflectliteValue.mk 34 F 256).run Tryd.prog W = .ok (.agg #[.pointer (some ⟨9, 34, none⟩), .pointer (some F), .int .u64 406]) W := by kernel_rfl
  have el : (Extern.Rtype.elem? 38).run Tryd.prog W = .ok (some 34) W := by kernel_rfl
  simp [Extern.ReflectliteValue.elem, l, el, m, Result.andThen, Extern.ReflectliteValue.flagAddr]
theorem setP (b F : Nat) (v x : Value) (W : World) (h : W.cell? ⟨b, 0, none⟩ = some v) (hF : W.heap[F]? = some (.cells #[x] 34 (0, 0))) (hv : v.oneCell' = true) : (callFunc 56 #[.agg #[.pointer (some ⟨9, 34, none⟩), .pointer (some ⟨F, 0, none⟩), .int .u64 406], .agg #[.pointer (some ⟨9, 34, none⟩), .pointer (some ⟨b, 0, none⟩), .int .u64 150]]).run Tryd.prog W = .ok (.value (.tuple #[])) (W.setRow F #[v]) := by
  rw [run_callFunc_extern Tryd.func56 (by kernel_rfl) (by kernel_rfl) (by kernel_rfl) (e := Extern.ReflectliteValue.set) (by kernel_rfl)]
  have l := loadP b _ W h
  have hp := partsP ⟨b, 0, none⟩ W
  have hq := partsA ⟨F, 0, none⟩ W
  have da : (Extern.Rtype.directlyAssignable 34 34).run Tryd.prog W = .ok true W := by kernel_rfl
  have st : (storeVar 34 ⟨F, 0, none⟩ v).run Tryd.prog W = .ok () (W.setRow F #[v]) := run_storeVar_one W F 34 34 x v hF (by kernel_rfl) hv
  obtain ⟨G, g1, g2⟩ : ∃ G : Option (TypeId × Addr × Nat) → Option (TypeId × Addr × Nat) → Sem Value, (∀ a c, Extern.ReflectliteValue.set #[a, c] = (Extern.ReflectliteValue.parts a >>= fun pv => Extern.ReflectliteValue.parts c >>= fun px => G pv px)) ∧ (G (some (34, ⟨F, 0, none⟩, 406)) (some (34, ⟨b, 0, none⟩, 150))).run Tryd.prog W = .ok (.tuple #[]) (W.setRow F #[v]) := by
    refine ⟨_, fun _ _ => rfl, ?_⟩
    simp [l, da, st, Extern.ReflectliteValue.flagAddr]
  rw [g1]
  simp [hp, hq, g2, Result.andThen]
end Er
end Go.Proofs.YtoccedbnnafjcaaDoor
