import Derived.Test.YtcnagbkdckipnaaGreatDoorChTab
import Derived.Test.YtcnagbkdckipnaaGreatDoorLxWord
import Derived.Laws.BitsAllLaws
import Derived.BigQuiet
import Derived.Deep.DeepCutAuto
import Derived.Deep.CutBlock
import Derived.Deep.DeepMust
/-
  THE WALK over utf8.Valid at a slice of bytes.
-/
namespace Go.Proofs.YtcnagbkdckipnaaGreatDoor
open Go.RowKit Go.Lib
namespace Lx
/-- how long a slice is -/
def slen : Value → Nat
  | .slice _ n _ => n
  | _ => 0
/-- where Valid stands -/
def Vst (w : World) (b o n : Nat) (f : Nat → Nat) (ANS : Bool) (v : Value) (wx : World) : Prop :=
  ∃ k q m, v = .slice (some ⟨b, q, none⟩) m m ∧ k + m = n ∧ (0 < m → q = o + k) ∧ V f n k = ANS ∧ Below w.heap.size w wx
set_option maxRecDepth 100000 in
theorem and_seven : ∀ X : Fin 256, bits .and .u8 ((X.val : Nat) : Int) 7 = ((X.val % 8 : Nat) : Int) := by decide
theorem mask_or {a b m : Nat} (h : (a ||| b) &&& m = 0) : a &&& m = 0 ∧ b &&& m = 0 := by
  rw [Nat.and_or_distrib_right] at h
  exact Nat.or_eq_zero_iff.1 h
theorem first_lt (x : Nat) : firstT x < 256 := by rcases Lib.firstT_cases x with h | h | h | h | h | h | h | h | h <;> omega
end Lx

namespace Lx
/-- the first loop of a body -/
def lp : Code → Option Code
  | .loop c => some c
  | .seq a b => (lp a).or (lp b)
  | .block _ c => lp c
  | .scope c => lp c
  | .cond _ a b => (lp a).or (lp b)
  | _ => none
set_option maxRecDepth 1000000 in
/-- what Valid's loop keeps -/
def VI (w : World) (b o n : Nat) (f : Nat → Nat) (ANS : Bool) (a : Act) (w' : World) : Prop :=
  ∃ u0 u1 u2 u3 u4 u5 u6 u7 u8 u9 u10 u11 u12 u13 u14 u15 u16 u17 u18 u19 u20 u21 u22 u23 u24 u25 u26 u27 u28 u29 u30 u31 u32 u33 u34 u35 u36 u37 u38 u39 u40 u41 u42 u43 u44 u45 u46 u47 u48 u49 u50 u51 u52 u53 u54 u55 u56 u57 u58 u59 u60 u61 u62 u63 u64 u65 u66 u67 u68 u69 u70 u71 u72 u73 u74 u75 u76 u77 u78 u79 u80 u81 u82 u83 u84 u85 u86 u87 u88 u89 u90 u91 u92 u93 u94 u95 u96 u97 u98 u99 u100 u101 u102 u103 u104 u105 u106 u107 u108 u109 u110 u111 u112 u113 u114 u115 u116 u117 u118 u119 u120 u121 u122 u123 u124 u125 u126 u127 u128 u129 u130 u131 u132 u133 u134 u135 u136 u137 u138 u139 u140 u141 u142 u143 u144 u145 u146 u147 u148 u149 u150 u151 u152 u153 u154 u155 u156 u157 u158 u159 u160 u161 u162 u163 u164 u165 u166 u167 u168 u169 u170 u171 u172 u173 u174 u175 u176 u177 u178 u179 u180 u181 u182 u183 u184 u185 u186 u187 : Value, Vst w b o n f ANS u0 w' ∧ a = ⟨(u0 :: u1 :: u2 :: u3 :: u4 :: u5 :: u6 :: u7 :: u8 :: u9 :: u10 :: u11 :: u12 :: u13 :: u14 :: u15 :: u16 :: u17 :: u18 :: u19 :: u20 :: u21 :: u22 :: u23 :: u24 :: u25 :: u26 :: u27 :: u28 :: u29 :: u30 :: u31 :: u32 :: u33 :: u34 :: u35 :: u36 :: u37 :: u38 :: u39 :: u40 :: u41 :: u42 :: u43 :: u44 :: u45 :: u46 :: u47 :: u48 :: u49 :: u50 :: u51 :: u52 :: u53 :: u54 :: u55 :: u56 :: u57 :: u58 :: u59 :: u60 :: u61 :: u62 :: u63 :: u64 :: u65 :: u66 :: u67 :: u68 :: u69 :: u70 :: u71 :: u72 :: u73 :: u74 :: u75 :: u76 :: u77 :: u78 :: u79 :: u80 :: u81 :: u82 :: u83 :: u84 :: u85 :: u86 :: u87 :: u88 :: u89 :: u90 :: u91 :: u92 :: u93 :: u94 :: u95 :: u96 :: u97 :: u98 :: u99 :: u100 :: u101 :: u102 :: u103 :: u104 :: u105 :: u106 :: u107 :: u108 :: u109 :: u110 :: u111 :: u112 :: u113 :: u114 :: u115 :: u116 :: u117 :: u118 :: u119 :: u120 :: u121 :: u122 :: u123 :: u124 :: u125 :: u126 :: u127 :: u128 :: u129 :: u130 :: u131 :: u132 :: u133 :: u134 :: u135 :: u136 :: u137 :: u138 :: u139 :: u140 :: u141 :: u142 :: u143 :: u144 :: u145 :: u146 :: u147 :: u148 :: u149 :: u150 :: u151 :: u152 :: u153 :: u154 :: u155 :: u156 :: u157 :: u158 :: u159 :: u160 :: u161 :: u162 :: u163 :: u164 :: u165 :: u166 :: u167 :: u168 :: u169 :: u170 :: u171 :: u172 :: u173 :: u174 :: u175 :: u176 :: u177 :: u178 :: u179 :: u180 :: u181 :: u182 :: u183 :: u184 :: u185 :: u186 :: u187 :: []).toArray, []⟩
def Vmu (a : Act) (_ : World) : Nat := slen (a.tmps.getD 0 undef)
set_option maxRecDepth 1000000 in
/-- how the loop may be left -/
def Vx (w : World) (ANS : Bool) (Q0 : Exit → Act → World → Prop) : Prop :=
  (∀ (u0 u1 u2 u3 u4 u5 u6 u7 u8 u9 u10 u11 u12 u13 u14 u15 u16 u17 u18 u19 u20 u21 u22 u23 u24 u25 u26 u27 u28 u29 u30 u31 u32 u33 u34 u35 u36 u37 u38 u39 u40 u41 u42 u43 u44 u45 u46 u47 u48 u49 u50 u51 u52 u53 u54 u55 u56 u57 u58 u59 u60 u61 u62 u63 u64 u65 u66 u67 u68 u69 u70 u71 u72 u73 u74 u75 u76 u77 u78 u79 u80 u81 u82 u83 u84 u85 u86 u87 u88 u89 u90 u91 u92 u93 u94 u95 u96 u97 u98 u99 u100 u101 u102 u103 u104 u105 u106 u107 u108 u109 u110 u111 u112 u113 u114 u115 u116 u117 u118 u119 u120 u121 u122 u123 u124 u125 u126 u127 u128 u129 u130 u131 u132 u133 u134 u135 u136 u137 u138 u139 u140 u141 u142 u143 u144 u145 u146 u147 u148 u149 u150 u151 u152 u153 u154 u155 u156 u157 u158 u159 u160 u161 u162 u163 u164 u165 u166 u167 u168 u169 u170 u171 u172 u173 u174 u175 u176 u177 u178 u179 u180 u181 u182 u183 u184 u185 u186 u187 : Value) w'', Below w.heap.size w w'' → ANS = true → Q0 (.exit 0) ⟨(u0 :: u1 :: u2 :: u3 :: u4 :: u5 :: u6 :: u7 :: u8 :: u9 :: u10 :: u11 :: u12 :: u13 :: u14 :: u15 :: u16 :: u17 :: u18 :: u19 :: u20 :: u21 :: u22 :: u23 :: u24 :: u25 :: u26 :: u27 :: u28 :: u29 :: u30 :: u31 :: u32 :: u33 :: u34 :: u35 :: u36 :: u37 :: u38 :: u39 :: u40 :: u41 :: u42 :: u43 :: u44 :: u45 :: u46 :: u47 :: u48 :: u49 :: u50 :: u51 :: u52 :: u53 :: u54 :: u55 :: u56 :: u57 :: u58 :: u59 :: u60 :: u61 :: u62 :: u63 :: u64 :: u65 :: u66 :: u67 :: u68 :: u69 :: u70 :: u71 :: u72 :: u73 :: u74 :: u75 :: u76 :: u77 :: u78 :: u79 :: u80 :: u81 :: u82 :: u83 :: u84 :: u85 :: u86 :: u87 :: u88 :: u89 :: u90 :: u91 :: u92 :: u93 :: u94 :: u95 :: u96 :: u97 :: u98 :: u99 :: u100 :: u101 :: u102 :: u103 :: u104 :: u105 :: u106 :: u107 :: u108 :: u109 :: u110 :: u111 :: u112 :: u113 :: u114 :: u115 :: u116 :: u117 :: u118 :: u119 :: u120 :: u121 :: u122 :: u123 :: u124 :: u125 :: u126 :: u127 :: u128 :: u129 :: u130 :: u131 :: u132 :: u133 :: u134 :: u135 :: u136 :: u137 :: u138 :: u139 :: u140 :: u141 :: u142 :: u143 :: u144 :: u145 :: u146 :: u147 :: u148 :: u149 :: u150 :: u151 :: u152 :: u153 :: u154 :: u155 :: u156 :: u157 :: u158 :: u159 :: u160 :: u161 :: u162 :: u163 :: u164 :: u165 :: u166 :: u167 :: u168 :: u169 :: u170 :: u171 :: u172 :: u173 :: u174 :: u175 :: u176 :: u177 :: u178 :: u179 :: u180 :: u181 :: u182 :: u183 :: u184 :: u185 :: u186 :: u187 :: []).toArray, []⟩ w'') ∧
  (∀ (u0 u1 u3 u4 u5 u6 u7 u8 u9 u10 u11 u12 u13 u14 u15 u16 u17 u18 u19 u20 u21 u22 u23 u24 u25 u26 u27 u28 u29 u30 u31 u32 u33 u34 u35 u36 u37 u38 u39 u40 u41 u42 u43 u44 u45 u46 u47 u48 u49 u50 u51 u52 u53 u54 u55 u56 u57 u58 u59 u60 u61 u62 u63 u64 u65 u66 u67 u68 u69 u70 u71 u72 u73 u74 u75 u76 u77 u78 u79 u80 u81 u82 u83 u84 u85 u86 u87 u88 u89 u90 u91 u92 u93 u94 u95 u96 u97 u98 u99 u100 u101 u102 u103 u104 u105 u106 u107 u108 u109 u110 u111 u112 u113 u114 u115 u116 u117 u118 u119 u120 u121 u122 u123 u124 u125 u126 u127 u128 u129 u130 u131 u132 u133 u134 u135 u136 u137 u138 u139 u140 u141 u142 u143 u144 u145 u146 u147 u148 u149 u150 u151 u152 u153 u154 u155 u156 u157 u158 u159 u160 u161 u162 u163 u164 u165 u166 u167 u168 u169 u170 u171 u172 u173 u174 u175 u176 u177 u178 u179 u180 u181 u182 u183 u184 u185 u186 u187 : Value) w'', Below w.heap.size w w'' → ANS = false → Q0 .ret ⟨(u0 :: u1 :: .bool false :: u3 :: u4 :: u5 :: u6 :: u7 :: u8 :: u9 :: u10 :: u11 :: u12 :: u13 :: u14 :: u15 :: u16 :: u17 :: u18 :: u19 :: u20 :: u21 :: u22 :: u23 :: u24 :: u25 :: u26 :: u27 :: u28 :: u29 :: u30 :: u31 :: u32 :: u33 :: u34 :: u35 :: u36 :: u37 :: u38 :: u39 :: u40 :: u41 :: u42 :: u43 :: u44 :: u45 :: u46 :: u47 :: u48 :: u49 :: u50 :: u51 :: u52 :: u53 :: u54 :: u55 :: u56 :: u57 :: u58 :: u59 :: u60 :: u61 :: u62 :: u63 :: u64 :: u65 :: u66 :: u67 :: u68 :: u69 :: u70 :: u71 :: u72 :: u73 :: u74 :: u75 :: u76 :: u77 :: u78 :: u79 :: u80 :: u81 :: u82 :: u83 :: u84 :: u85 :: u86 :: u87 :: u88 :: u89 :: u90 :: u91 :: u92 :: u93 :: u94 :: u95 :: u96 :: u97 :: u98 :: u99 :: u100 :: u101 :: u102 :: u103 :: u104 :: u105 :: u106 :: u107 :: u108 :: u109 :: u110 :: u111 :: u112 :: u113 :: u114 :: u115 :: u116 :: u117 :: u118 :: u119 :: u120 :: u121 :: u122 :: u123 :: u124 :: u125 :: u126 :: u127 :: u128 :: u129 :: u130 :: u131 :: u132 :: u133 :: u134 :: u135 :: u136 :: u137 :: u138 :: u139 :: u140 :: u141 :: u142 :: u143 :: u144 :: u145 :: u146 :: u147 :: u148 :: u149 :: u150 :: u151 :: u152 :: u153 :: u154 :: u155 :: u156 :: u157 :: u158 :: u159 :: u160 :: u161 :: u162 :: u163 :: u164 :: u165 :: u166 :: u167 :: u168 :: u169 :: u170 :: u171 :: u172 :: u173 :: u174 :: u175 :: u176 :: u177 :: u178 :: u179 :: u180 :: u181 :: u182 :: u183 :: u184 :: u185 :: u186 :: u187 :: []).toArray, []⟩ w'')
end Lx
end Go.Proofs.YtcnagbkdckipnaaGreatDoor
/-
  THE WALK over utf8.Valid: one case of its round.
-/
namespace Go.Proofs.YtcnagbkdckipnaaGreatDoor
open Go.RowKit Go.Lib

set_option maxRecDepth 1000000 in
set_option maxHeartbeats 16000000 in
theorem valid_low {f : Nat → Nat} {n b o : Nat} {w : World} {ANS : Bool} {Q0 : Exit → Act → World → Prop} (hf : ∀ j, f j < 256) (hp : Bytes w b o n f) (hx : Lx.Vx w ANS Q0)
    (k m : Nat) (wr : World) (hkm : k + m = n) (h0 : 0 < m) (hv : Lx.V f n k = ANS) (hbw : Below w.heap.size w wr) (u1 u2 u3 u4 u5 u6 u7 u8 u9 u10 u11 u12 u13 u14 u15 u16 u17 u18 u19 u20 u21 u22 u23 u24 u25 u26 u27 u28 u29 u30 u31 u32 u33 u34 u35 u36 u37 u38 u39 u40 u41 u42 u43 u44 u45 u46 u47 u48 u49 u50 u51 u52 u53 u54 u55 u56 u57 u58 u59 u60 u61 u62 u63 u64 u65 u66 u67 u68 u69 u70 u71 u72 u73 u74 u75 u76 u77 u78 u79 u80 u81 u82 u83 u84 u85 u86 u87 u88 u89 u90 u91 u92 u93 u94 u95 u96 u97 u98 u99 u100 u101 u102 u103 u104 u105 u106 u107 u108 u109 u110 u111 u112 u113 u114 u115 u116 u117 u118 u119 u120 u121 u122 u123 u124 u125 u126 u127 u128 u129 u130 u131 u132 u133 u134 u135 u136 u137 u138 u139 u140 u141 u142 u143 u144 u145 u146 u147 u148 u149 u150 u151 u152 u153 u154 u155 u156 u157 u158 u159 u160 u161 u162 u163 u164 u165 u166 u167 u168 u169 u170 u171 u172 u173 u174 u175 u176 u177 u178 u179 u180 u181 u182 u183 u184 u185 u186 u187 : Value) (hlow : f k < 128) :
    Code.wp Tryz.prog ((Tryz.f32.body.bind Lx.lp).getD .skip) (Exit.then (fun a' w' => Lx.VI w b o n f ANS a' w' ∧ Lx.Vmu a' w' < Lx.Vmu ⟨(.slice (some ⟨b, o + k, none⟩) m m :: u1 :: u2 :: u3 :: u4 :: u5 :: u6 :: u7 :: u8 :: u9 :: u10 :: u11 :: u12 :: u13 :: u14 :: u15 :: u16 :: u17 :: u18 :: u19 :: u20 :: u21 :: u22 :: u23 :: u24 :: u25 :: u26 :: u27 :: u28 :: u29 :: u30 :: u31 :: u32 :: u33 :: u34 :: u35 :: u36 :: u37 :: u38 :: u39 :: u40 :: u41 :: u42 :: u43 :: u44 :: u45 :: u46 :: u47 :: u48 :: u49 :: u50 :: u51 :: u52 :: u53 :: u54 :: u55 :: u56 :: u57 :: u58 :: u59 :: u60 :: u61 :: u62 :: u63 :: u64 :: u65 :: u66 :: u67 :: u68 :: u69 :: u70 :: u71 :: u72 :: u73 :: u74 :: u75 :: u76 :: u77 :: u78 :: u79 :: u80 :: u81 :: u82 :: u83 :: u84 :: u85 :: u86 :: u87 :: u88 :: u89 :: u90 :: u91 :: u92 :: u93 :: u94 :: u95 :: u96 :: u97 :: u98 :: u99 :: u100 :: u101 :: u102 :: u103 :: u104 :: u105 :: u106 :: u107 :: u108 :: u109 :: u110 :: u111 :: u112 :: u113 :: u114 :: u115 :: u116 :: u117 :: u118 :: u119 :: u120 :: u121 :: u122 :: u123 :: u124 :: u125 :: u126 :: u127 :: u128 :: u129 :: u130 :: u131 :: u132 :: u133 :: u134 :: u135 :: u136 :: u137 :: u138 :: u139 :: u140 :: u141 :: u142 :: u143 :: u144 :: u145 :: u146 :: u147 :: u148 :: u149 :: u150 :: u151 :: u152 :: u153 :: u154 :: u155 :: u156 :: u157 :: u158 :: u159 :: u160 :: u161 :: u162 :: u163 :: u164 :: u165 :: u166 :: u167 :: u168 :: u169 :: u170 :: u171 :: u172 :: u173 :: u174 :: u175 :: u176 :: u177 :: u178 :: u179 :: u180 :: u181 :: u182 :: u183 :: u184 :: u185 :: u186 :: u187 :: []).toArray, []⟩ wr) Q0) ⟨(.slice (some ⟨b, o + k, none⟩) m m :: u1 :: u2 :: u3 :: u4 :: u5 :: u6 :: u7 :: u8 :: u9 :: u10 :: u11 :: u12 :: u13 :: u14 :: u15 :: u16 :: u17 :: u18 :: u19 :: u20 :: u21 :: u22 :: u23 :: u24 :: u25 :: u26 :: u27 :: u28 :: u29 :: u30 :: u31 :: u32 :: u33 :: u34 :: u35 :: u36 :: u37 :: u38 :: u39 :: u40 :: u41 :: u42 :: u43 :: u44 :: u45 :: u46 :: u47 :: u48 :: u49 :: u50 :: u51 :: u52 :: u53 :: u54 :: u55 :: u56 :: u57 :: u58 :: u59 :: u60 :: u61 :: u62 :: u63 :: u64 :: u65 :: u66 :: u67 :: u68 :: u69 :: u70 :: u71 :: u72 :: u73 :: u74 :: u75 :: u76 :: u77 :: u78 :: u79 :: u80 :: u81 :: u82 :: u83 :: u84 :: u85 :: u86 :: u87 :: u88 :: u89 :: u90 :: u91 :: u92 :: u93 :: u94 :: u95 :: u96 :: u97 :: u98 :: u99 :: u100 :: u101 :: u102 :: u103 :: u104 :: u105 :: u106 :: u107 :: u108 :: u109 :: u110 :: u111 :: u112 :: u113 :: u114 :: u115 :: u116 :: u117 :: u118 :: u119 :: u120 :: u121 :: u122 :: u123 :: u124 :: u125 :: u126 :: u127 :: u128 :: u129 :: u130 :: u131 :: u132 :: u133 :: u134 :: u135 :: u136 :: u137 :: u138 :: u139 :: u140 :: u141 :: u142 :: u143 :: u144 :: u145 :: u146 :: u147 :: u148 :: u149 :: u150 :: u151 :: u152 :: u153 :: u154 :: u155 :: u156 :: u157 :: u158 :: u159 :: u160 :: u161 :: u162 :: u163 :: u164 :: u165 :: u166 :: u167 :: u168 :: u169 :: u170 :: u171 :: u172 :: u173 :: u174 :: u175 :: u176 :: u177 :: u178 :: u179 :: u180 :: u181 :: u182 :: u183 :: u184 :: u185 :: u186 :: u187 :: []).toArray, []⟩ wr := by
  have h0z : (0 : Int) < m := by omega
  have hb0 : wr.cell? ⟨b, o + k, none⟩ = some (.int .u8 (f k)) := (hp.below hbw (Nat.le_refl _)) k (by omega)
  obtain ⟨hx1, hx2⟩ := hx
  conv => arg 2; whnf
  have hlz : (f k : Int) < 128 := by omega
  have v1 : Lx.V f n (k + 1) = ANS := by rw [← hv, Lx.V_low (by omega) hlow]
  have i1 : (1 : Int) ≤ m := by omega
  clear hv
  by_cases m1 : m = 1
  · subst m1
    clear hp
    go_wp2
    refine ⟨⟨_, _, _, _, _, _, _, _, _, _, _, _, _, _, _, _, _, _, _, _, _, _, _, _, _, _, _, _, _, _, _, _, _, _, _, _, _, _, _, _, _, _, _, _, _, _, _, _, _, _, _, _, _, _, _, _, _, _, _, _, _, _, _, _, _, _, _, _, _, _, _, _, _, _, _, _, _, _, _, _, _, _, _, _, _, _, _, _, _, _, _, _, _, _, _, _, _, _, _, _, _, _, _, _, _, _, _, _, _, _, _, _, _, _, _, _, _, _, _, _, _, _, _, _, _, _, _, _, _, _, _, _, _, _, _, _, _, _, _, _, _, _, _, _, _, _, _, _, _, _, _, _, _, _, _, _, _, _, _, _, _, _, _, _, _, _, _, _, _, _, _, _, _, _, _, _, _, _, _, _, _, _, _, _, _, _, _, _, ?_, rfl⟩, ?_⟩
    · exact ⟨k + 1, o + k, 0, rfl, by omega, fun h => by omega, v1, hbw⟩
    · exact (by show 0 < 1; omega)
  have n1 : ¬ m - 1 = 0 := by omega
  have e1 : (m : Int) - 1 = ((m - 1 : Nat) : Int) := by omega
  by_cases c8 : 8 < m - 1
  · have c8z : (8 : Int) < ((m - 1 : Nat) : Int) := by omega
    obtain ⟨A1, hA1⟩ : ∃ A, Lx.w8 (Rn.off f (k + 1)) = A := ⟨_, rfl⟩
    have l1 : A1 < 18446744073709551616 := hA1 ▸ Lx.w8_lt _ (fun _ => hf _)
    have a1 : A1 &&& 9259542123273814144 = 0 → ∀ j, j < 8 → f (k + 1 + j) < 128 := fun h => Lx.w8_asc (Rn.off f (k + 1)) (fun _ => hf _) (by rw [hA1]; exact h)
    have c1 : ∀ W, Below w.heap.size w W → Calls Tryz.prog 66 #[.slice (some ⟨b, o + k + 1, none⟩) (m - 1 : Nat) (m - 1 : Nat)] W fun e w' => e = .returned (.int .u64 A1) ∧ ∃ q, w' = W.drewN q := fun W hb => by
      rw [← hA1]
      have := ((hp.below hb (Nat.le_refl _)).off (k := k + 1) (by omega)).le (n := n - (k + 1)) (m := m - 1) (by omega)
      exact word_any (Rn.off f (k + 1)) b (o + k + 1) (m - 1) W (fun _ => hf _) (by omega) (by rw [show o + k + 1 = o + (k + 1) by omega]; exact this)
    have h1 : bits .and .u64 (A1 : Int) 9259542123273814144 = ((A1 &&& 9259542123273814144 : Nat) : Int) := u64_and_nat A1 9259542123273814144 l1 (by omega)
    have a1' : A1 &&& 9259542123273814144 = 0 → Lx.V f n (k + 9) = ANS := fun h => by rw [← v1, Lx.V_asc 8 (by omega) (a1 h)]
    have c1' := c1 wr hbw
    generalize A1 &&& 9259542123273814144 = Z1 at *
    clear c1 a1 hA1
    by_cases z1 : Z1 = 0
    · have z1b : ((Z1 : Int) == 0) = true := by simp [z1]
      have v2 := a1' z1
      have n8 : ¬ m - 1 = 8 := by omega
      have n8' : ¬ m - 1 - 8 = 0 := by omega
      have e8 : ((m - 1 : Nat) : Int) - 8 = ((m - 9 : Nat) : Int) := by omega
      have e8' : m - 1 - 8 = m - 9 := by omega
      clear a1' z1
      go_wp2_with fail
      refine c1'.mono ?_
      rintro e w1 ⟨rfl, q1, rfl⟩
      have hb1 := below_drewN hbw q1
      generalize wr.drewN q1 = w1 at hb1 ⊢
      clear c1'
      go_wp2_with fail
      clear e8 e8' n8 n8' e1 n1 c8z i1 hlz hb0 h0z h1 z1b l1
      obtain ⟨K, hK⟩ : ∃ K, k + 9 = K := ⟨_, rfl⟩
      obtain ⟨Q, hQ⟩ : ∃ Q, o + k + 1 + 8 = Q := ⟨_, rfl⟩
      obtain ⟨M, hM⟩ : ∃ M, m - 9 = M := ⟨_, rfl⟩
      rw [hQ, hM]
      rw [hK] at v2
      have hKM : K + M = n := by omega
      have HQ := hide' (show Q = o + K by omega)
      have hMm : M < m := by omega
      have hM0 : 0 < M := by omega
      have HM := hide' hMm
      clear hK hQ hM hMm c8
      have HBw1 := hb1
      by_cases c16 : 16 < M
      · have c16z : (16 : Int) < (M : Int) := by omega
        have s8 : (8 : Int) ≤ (M : Int) := by omega
        have n8 : ¬ M = 8 := by omega
        have n8' : ¬ M - 8 = 0 := by omega
        have e8 : (M : Int) - 8 = ((M - 8 : Nat) : Int) := by omega
        obtain ⟨A2, hA2⟩ : ∃ A, Lx.w8 (Rn.off f (K)) = A := ⟨_, rfl⟩
        have l2 : A2 < 18446744073709551616 := hA2 ▸ Lx.w8_lt _ (fun _ => hf _)
        have a2 : A2 &&& 9259542123273814144 = 0 → ∀ j, j < 8 → f (K + j) < 128 := fun h => Lx.w8_asc (Rn.off f (K)) (fun _ => hf _) (by rw [hA2]; exact h)
        have c2 : ∀ j, Calls Tryz.prog 66 #[.slice (some ⟨b, Q, none⟩) (M : Nat) (M : Nat)] (w1.drewN j) fun e w' => e = .returned (.int .u64 A2) ∧ ∃ q, w' = (w1.drewN j).drewN q := fun j => by
          rw [← hA2]
          have := ((hp.below (below_drewN HBw1 j) (Nat.le_refl _)).off (k := K) (by omega)).le (m := M - 0) (by omega)
          exact word_any (Rn.off f (K)) b (Q) (M - 0) (w1.drewN j) (fun _ => hf _) (by omega) (by rw [show Q = o + (K) by have := HQ.out; omega]; exact this)
        clear hA2
        obtain ⟨A3, hA3⟩ : ∃ A, Lx.w8 (Rn.off f (K + 8)) = A := ⟨_, rfl⟩
        have l3 : A3 < 18446744073709551616 := hA3 ▸ Lx.w8_lt _ (fun _ => hf _)
        have a3 : A3 &&& 9259542123273814144 = 0 → ∀ j, j < 8 → f (K + 8 + j) < 128 := fun h => Lx.w8_asc (Rn.off f (K + 8)) (fun _ => hf _) (by rw [hA3]; exact h)
        have c3 : ∀ j, Calls Tryz.prog 66 #[.slice (some ⟨b, Q + 8, none⟩) (M - 8 : Nat) (M - 8 : Nat)] (w1.drewN j) fun e w' => e = .returned (.int .u64 A3) ∧ ∃ q, w' = (w1.drewN j).drewN q := fun j => by
          rw [← hA3]
          have := ((hp.below (below_drewN HBw1 j) (Nat.le_refl _)).off (k := K + 8) (by omega)).le (m := M - 8) (by omega)
          exact word_any (Rn.off f (K + 8)) b (Q + 8) (M - 8) (w1.drewN j) (fun _ => hf _) (by omega) (by rw [show Q + 8 = o + (K + 8) by have := HQ.out; omega]; exact this)
        clear hA3
        have ho : bits .or .u64 (A2 : Int) (A3 : Int) = ((A2 ||| A3 : Nat) : Int) := u64_or_nat A2 A3 l2 l3
        have lo : A2 ||| A3 < 18446744073709551616 := Nat.or_lt_two_pow (n := 64) l2 l3
        have hn : bits .and .u64 ((A2 ||| A3 : Nat) : Int) 9259542123273814144 = (((A2 ||| A3) &&& 9259542123273814144 : Nat) : Int) := u64_and_nat _ 9259542123273814144 lo (by omega)
        have kk : (A2 ||| A3) &&& 9259542123273814144 = 0 → Lx.V f n (K + 16) = ANS := fun h => by
          obtain ⟨e1, e2⟩ := Lx.mask_or h
          rw [← v2, Lx.V_asc (k := K) 8 (by omega) (a2 e1), Lx.V_asc (k := K + 8) 8 (by omega) (a3 e2)]
        obtain ⟨O, hO⟩ : ∃ O, A2 ||| A3 = O := ⟨_, rfl⟩
        rw [hO] at ho hn kk
        generalize O &&& 9259542123273814144 = Z at *
        clear a2 a3 lo hO
        by_cases hz : Z = 0
        · have hzb : ((Z : Int) == 0) = true := by simp [hz]
          have v3 := kk hz
          clear kk hz
          go_quiet (first | (go_at_call 66; with_reducible refine Calls.quiet_of (c2 _)) | (go_at_call 66; with_reducible refine Calls.quiet_of (c3 _)))
          have hb2 := below_drewN hb1 nq
          generalize w1.drewN nq = w2 at hb2 ⊢
          clear c2 c3 hn ho hzb c16z s8 n8 n8' e8 HBw1 hb1 v2
          have n16 : ¬ M = 16 := by omega
          have n16' : ¬ M - 16 = 0 := by omega
          have e16 : (M : Int) - 16 = ((M - 16 : Nat) : Int) := by omega
          have s16 : (16 : Int) ≤ (M : Int) := by omega
          obtain ⟨wq, rfl⟩ : ∃ wq, wq = wr := ⟨_, rfl⟩
          go_wp2_with fail
          go_loopw [0] (fun v wx => ∃ K Q M, v = .slice (some ⟨b, Q, none⟩) M M ∧ K + M = n ∧ Q = o + K ∧ 0 < M ∧ M < m ∧ Lx.V f n K = ANS ∧ Below w.heap.size w wx) (fun v _ => Lx.slen v)
          case atStart => exact ⟨K + 16, Q + 16, M - 16, rfl, by omega, by have := HQ.out; omega, by omega, by have := HM.out; omega, v3, hb2⟩
          case round =>
            clear hb2 v3 HQ HM hKM hM0 c16 n16 n16' e16 s16
            obtain ⟨K, Q, M, rfl, hKM, hQ, hM0, hMm, v2, hb1⟩ := hrel
            have HQ := hide' hQ
            have HM := hide' hMm
            clear hQ hMm
            have HBwr := hb1
            by_cases c32 : 32 < M
            · have c32z : (32 : Int) < (M : Int) := by omega
              have s8 : (8 : Int) ≤ (M : Int) := by omega
              have s16 : (16 : Int) ≤ (M : Int) := by omega
              have s24 : (24 : Int) ≤ (M : Int) := by omega
              have n8 : ¬ M = 8 := by omega
              have n8' : ¬ M - 8 = 0 := by omega
              have n16 : ¬ M = 16 := by omega
              have n16' : ¬ M - 16 = 0 := by omega
              have n24 : ¬ M = 24 := by omega
              have n24' : ¬ M - 24 = 0 := by omega
              have e8 : (M : Int) - 8 = ((M - 8 : Nat) : Int) := by omega
              have e16 : (M : Int) - 16 = ((M - 16 : Nat) : Int) := by omega
              have e24 : (M : Int) - 24 = ((M - 24 : Nat) : Int) := by omega
              obtain ⟨A4, hA4⟩ : ∃ A, Lx.w8 (Rn.off f (K)) = A := ⟨_, rfl⟩
              have l4 : A4 < 18446744073709551616 := hA4 ▸ Lx.w8_lt _ (fun _ => hf _)
              have a4 : A4 &&& 9259542123273814144 = 0 → ∀ j, j < 8 → f (K + j) < 128 := fun h => Lx.w8_asc (Rn.off f (K)) (fun _ => hf _) (by rw [hA4]; exact h)
              have c4 : ∀ j, Calls Tryz.prog 66 #[.slice (some ⟨b, Q, none⟩) (M : Nat) (M : Nat)] (wr.drewN j) fun e w' => e = .returned (.int .u64 A4) ∧ ∃ q, w' = (wr.drewN j).drewN q := fun j => by
                rw [← hA4]
                have := ((hp.below (below_drewN HBwr j) (Nat.le_refl _)).off (k := K) (by omega)).le (m := M - 0) (by omega)
                exact word_any (Rn.off f (K)) b (Q) (M - 0) (wr.drewN j) (fun _ => hf _) (by omega) (by rw [show Q = o + (K) by have := HQ.out; omega]; exact this)
              clear hA4
              obtain ⟨A5, hA5⟩ : ∃ A, Lx.w8 (Rn.off f (K + 8)) = A := ⟨_, rfl⟩
              have l5 : A5 < 18446744073709551616 := hA5 ▸ Lx.w8_lt _ (fun _ => hf _)
              have a5 : A5 &&& 9259542123273814144 = 0 → ∀ j, j < 8 → f (K + 8 + j) < 128 := fun h => Lx.w8_asc (Rn.off f (K + 8)) (fun _ => hf _) (by rw [hA5]; exact h)
              have c5 : ∀ j, Calls Tryz.prog 66 #[.slice (some ⟨b, Q + 8, none⟩) (M - 8 : Nat) (M - 8 : Nat)] (wr.drewN j) fun e w' => e = .returned (.int .u64 A5) ∧ ∃ q, w' = (wr.drewN j).drewN q := fun j => by
                rw [← hA5]
                have := ((hp.below (below_drewN HBwr j) (Nat.le_refl _)).off (k := K + 8) (by omega)).le (m := M - 8) (by omega)
                exact word_any (Rn.off f (K + 8)) b (Q + 8) (M - 8) (wr.drewN j) (fun _ => hf _) (by omega) (by rw [show Q + 8 = o + (K + 8) by have := HQ.out; omega]; exact this)
              clear hA5
              obtain ⟨A6, hA6⟩ : ∃ A, Lx.w8 (Rn.off f (K + 16)) = A := ⟨_, rfl⟩
              have l6 : A6 < 18446744073709551616 := hA6 ▸ Lx.w8_lt _ (fun _ => hf _)
              have a6 : A6 &&& 9259542123273814144 = 0 → ∀ j, j < 8 → f (K + 16 + j) < 128 := fun h => Lx.w8_asc (Rn.off f (K + 16)) (fun _ => hf _) (by rw [hA6]; exact h)
              have c6 : ∀ j, Calls Tryz.prog 66 #[.slice (some ⟨b, Q + 16, none⟩) (M - 16 : Nat) (M - 16 : Nat)] (wr.drewN j) fun e w' => e = .returned (.int .u64 A6) ∧ ∃ q, w' = (wr.drewN j).drewN q := fun j => by
                rw [← hA6]
                have := ((hp.below (below_drewN HBwr j) (Nat.le_refl _)).off (k := K + 16) (by omega)).le (m := M - 16) (by omega)
                exact word_any (Rn.off f (K + 16)) b (Q + 16) (M - 16) (wr.drewN j) (fun _ => hf _) (by omega) (by rw [show Q + 16 = o + (K + 16) by have := HQ.out; omega]; exact this)
              clear hA6
              obtain ⟨A7, hA7⟩ : ∃ A, Lx.w8 (Rn.off f (K + 24)) = A := ⟨_, rfl⟩
              have l7 : A7 < 18446744073709551616 := hA7 ▸ Lx.w8_lt _ (fun _ => hf _)
              have a7 : A7 &&& 9259542123273814144 = 0 → ∀ j, j < 8 → f (K + 24 + j) < 128 := fun h => Lx.w8_asc (Rn.off f (K + 24)) (fun _ => hf _) (by rw [hA7]; exact h)
              have c7 : ∀ j, Calls Tryz.prog 66 #[.slice (some ⟨b, Q + 24, none⟩) (M - 24 : Nat) (M - 24 : Nat)] (wr.drewN j) fun e w' => e = .returned (.int .u64 A7) ∧ ∃ q, w' = (wr.drewN j).drewN q := fun j => by
                rw [← hA7]
                have := ((hp.below (below_drewN HBwr j) (Nat.le_refl _)).off (k := K + 24) (by omega)).le (m := M - 24) (by omega)
                exact word_any (Rn.off f (K + 24)) b (Q + 24) (M - 24) (wr.drewN j) (fun _ => hf _) (by omega) (by rw [show Q + 24 = o + (K + 24) by have := HQ.out; omega]; exact this)
              clear hA7
              have ho1 : bits .or .u64 (A4 : Int) (A5 : Int) = ((A4 ||| A5 : Nat) : Int) := u64_or_nat A4 A5 l4 l5
              have ho2 : bits .or .u64 (A6 : Int) (A7 : Int) = ((A6 ||| A7 : Nat) : Int) := u64_or_nat A6 A7 l6 l7
              have lo1 : A4 ||| A5 < 18446744073709551616 := Nat.or_lt_two_pow (n := 64) l4 l5
              have lo2 : A6 ||| A7 < 18446744073709551616 := Nat.or_lt_two_pow (n := 64) l6 l7
              have ho3 : bits .or .u64 ((A4 ||| A5 : Nat) : Int) ((A6 ||| A7 : Nat) : Int) = (((A4 ||| A5) ||| (A6 ||| A7) : Nat) : Int) := u64_or_nat _ _ lo1 lo2
              have lo3 : (A4 ||| A5) ||| (A6 ||| A7) < 18446744073709551616 := Nat.or_lt_two_pow (n := 64) lo1 lo2
              have hn : bits .and .u64 (((A4 ||| A5) ||| (A6 ||| A7) : Nat) : Int) 9259542123273814144 = ((((A4 ||| A5) ||| (A6 ||| A7)) &&& 9259542123273814144 : Nat) : Int) := u64_and_nat _ 9259542123273814144 lo3 (by omega)
              have kk : ((A4 ||| A5) ||| (A6 ||| A7)) &&& 9259542123273814144 = 0 → Lx.V f n (K + 32) = ANS := fun h => by
                obtain ⟨e1, e2⟩ := Lx.mask_or h
                obtain ⟨e3, e4⟩ := Lx.mask_or e1
                obtain ⟨e5, e6⟩ := Lx.mask_or e2
                rw [← v2, Lx.V_asc (k := K) 8 (by omega) (a4 e3), Lx.V_asc (k := K + 8) 8 (by omega) (a5 e4), Lx.V_asc (k := K + 16) 8 (by omega) (a6 e5), Lx.V_asc (k := K + 24) 8 (by omega) (a7 e6)]
              obtain ⟨O1, hO1⟩ : ∃ O, A4 ||| A5 = O := ⟨_, rfl⟩
              obtain ⟨O2, hO2⟩ : ∃ O, A6 ||| A7 = O := ⟨_, rfl⟩
              rw [hO1, hO2] at ho3 hn kk
              rw [hO1] at ho1
              rw [hO2] at ho2
              obtain ⟨O3, hO3⟩ : ∃ O, O1 ||| O2 = O := ⟨_, rfl⟩
              rw [hO3] at ho3 hn kk
              generalize O3 &&& 9259542123273814144 = Z3 at *
              clear a4 a5 a6 a7 lo1 lo2 lo3 hO1 hO2 hO3
              by_cases hz : Z3 = 0
              · have hzb : ((Z3 : Int) == 0) = true := by simp [hz]
                have v3 := kk hz
                have n32 : ¬ M = 32 := by omega
                have n32' : ¬ M - 32 = 0 := by omega
                have e32 : (M : Int) - 32 = ((M - 32 : Nat) : Int) := by omega
                have s32 : (32 : Int) ≤ (M : Int) := by omega
                clear kk hz hp
                go_wp2_with fail
                go_quiet (first | (go_at_call 66; with_reducible refine Calls.quiet_of (c4 _)) | (go_at_call 66; with_reducible refine Calls.quiet_of (c5 _)) | (go_at_call 66; with_reducible refine Calls.quiet_of (c6 _)) | (go_at_call 66; with_reducible refine Calls.quiet_of (c7 _)))
                have hb2 := below_drewN hb1 nq
                clear c4 c5 c6 c7
                go_wp2
                exact ⟨⟨K + 32, Q + 32, M - 32, rfl, by omega, by have := HQ.out; omega, by omega, by have := HM.out; omega, v3, hb2⟩, by show M - 32 < M; omega⟩
              · have hzb : ((Z3 : Int) == 0) = false := by simp; omega
                clear kk hz hp
                go_wp2_with fail
                go_quiet (first | (go_at_call 66; with_reducible refine Calls.quiet_of (c4 _)) | (go_at_call 66; with_reducible refine Calls.quiet_of (c5 _)) | (go_at_call 66; with_reducible refine Calls.quiet_of (c6 _)) | (go_at_call 66; with_reducible refine Calls.quiet_of (c7 _)))
                have hb2 := below_drewN hb1 nq
                clear c4 c5 c6 c7
                go_wp2
                refine ⟨⟨_, _, _, _, _, _, _, _, _, _, _, _, _, _, _, _, _, _, _, _, _, _, _, _, _, _, _, _, _, _, _, _, _, _, _, _, _, _, _, _, _, _, _, _, _, _, _, _, _, _, _, _, _, _, _, _, _, _, _, _, _, _, _, _, _, _, _, _, _, _, _, _, _, _, _, _, _, _, _, _, _, _, _, _, _, _, _, _, _, _, _, _, _, _, _, _, _, _, _, _, _, _, _, _, _, _, _, _, _, _, _, _, _, _, _, _, _, _, _, _, _, _, _, _, _, _, _, _, _, _, _, _, _, _, _, _, _, _, _, _, _, _, _, _, _, _, _, _, _, _, _, _, _, _, _, _, _, _, _, _, _, _, _, _, _, _, _, _, _, _, _, _, _, _, _, _, _, _, _, _, _, _, _, _, _, _, _, _, ?_, rfl⟩, ?_⟩
                · exact ⟨K, Q, M, rfl, by omega, fun _ => by have := HQ.out; omega, v2, hb2⟩
                · exact (by have := HM.out; show M < m; omega)
            · have c32z : ¬ (32 : Int) < (M : Int) := by omega
              have c32d : decide ((32 : Int) < (M : Int)) = false := decide_eq_false c32z
              clear hp
              go_wp2_with fail
              go_quiet (fail)
              have hb2 := below_drewN hb1 nq
              go_wp2
              refine ⟨⟨_, _, _, _, _, _, _, _, _, _, _, _, _, _, _, _, _, _, _, _, _, _, _, _, _, _, _, _, _, _, _, _, _, _, _, _, _, _, _, _, _, _, _, _, _, _, _, _, _, _, _, _, _, _, _, _, _, _, _, _, _, _, _, _, _, _, _, _, _, _, _, _, _, _, _, _, _, _, _, _, _, _, _, _, _, _, _, _, _, _, _, _, _, _, _, _, _, _, _, _, _, _, _, _, _, _, _, _, _, _, _, _, _, _, _, _, _, _, _, _, _, _, _, _, _, _, _, _, _, _, _, _, _, _, _, _, _, _, _, _, _, _, _, _, _, _, _, _, _, _, _, _, _, _, _, _, _, _, _, _, _, _, _, _, _, _, _, _, _, _, _, _, _, _, _, _, _, _, _, _, _, _, _, _, _, _, _, _, ?_, rfl⟩, ?_⟩
              · exact ⟨K, Q, M, rfl, by omega, fun _ => by have := HQ.out; omega, v2, hb2⟩
              · exact (by have := HM.out; show M < m; omega)
        · have hzb : ((Z : Int) == 0) = false := by simp; omega
          clear kk hz hp
          go_quiet (first | (go_at_call 66; with_reducible refine Calls.quiet_of (c2 _)) | (go_at_call 66; with_reducible refine Calls.quiet_of (c3 _)))
          have hb2 := below_drewN hb1 nq
          clear c2 c3
          go_wp2
          refine ⟨⟨_, _, _, _, _, _, _, _, _, _, _, _, _, _, _, _, _, _, _, _, _, _, _, _, _, _, _, _, _, _, _, _, _, _, _, _, _, _, _, _, _, _, _, _, _, _, _, _, _, _, _, _, _, _, _, _, _, _, _, _, _, _, _, _, _, _, _, _, _, _, _, _, _, _, _, _, _, _, _, _, _, _, _, _, _, _, _, _, _, _, _, _, _, _, _, _, _, _, _, _, _, _, _, _, _, _, _, _, _, _, _, _, _, _, _, _, _, _, _, _, _, _, _, _, _, _, _, _, _, _, _, _, _, _, _, _, _, _, _, _, _, _, _, _, _, _, _, _, _, _, _, _, _, _, _, _, _, _, _, _, _, _, _, _, _, _, _, _, _, _, _, _, _, _, _, _, _, _, _, _, _, _, _, _, _, _, _, _, ?_, rfl⟩, ?_⟩
          · exact ⟨K, Q, M, rfl, by omega, fun _ => by have := HQ.out; omega, v2, hb2⟩
          · exact (by have := HM.out; show M < m; omega)
      · have c16z : ¬ (16 : Int) < (M : Int) := by omega
        have c16d : decide ((16 : Int) < (M : Int)) = false := decide_eq_false c16z
        clear hp
        go_quiet (fail)
        have hb2 := below_drewN hb1 nq
        go_wp2
        refine ⟨⟨_, _, _, _, _, _, _, _, _, _, _, _, _, _, _, _, _, _, _, _, _, _, _, _, _, _, _, _, _, _, _, _, _, _, _, _, _, _, _, _, _, _, _, _, _, _, _, _, _, _, _, _, _, _, _, _, _, _, _, _, _, _, _, _, _, _, _, _, _, _, _, _, _, _, _, _, _, _, _, _, _, _, _, _, _, _, _, _, _, _, _, _, _, _, _, _, _, _, _, _, _, _, _, _, _, _, _, _, _, _, _, _, _, _, _, _, _, _, _, _, _, _, _, _, _, _, _, _, _, _, _, _, _, _, _, _, _, _, _, _, _, _, _, _, _, _, _, _, _, _, _, _, _, _, _, _, _, _, _, _, _, _, _, _, _, _, _, _, _, _, _, _, _, _, _, _, _, _, _, _, _, _, _, _, _, _, _, _, ?_, rfl⟩, ?_⟩
        · exact ⟨K, Q, M, rfl, by omega, fun _ => by have := HQ.out; omega, v2, hb2⟩
        · exact (by have := HM.out; show M < m; omega)
    · have z1b : ((Z1 : Int) == 0) = false := by simp; omega
      clear a1' z1 hp
      go_wp2_with fail
      refine c1'.mono ?_
      rintro e w1 ⟨rfl, q1, rfl⟩
      have hb1 := below_drewN hbw q1
      clear c1'
      go_wp2_with fail
      refine ⟨⟨_, _, _, _, _, _, _, _, _, _, _, _, _, _, _, _, _, _, _, _, _, _, _, _, _, _, _, _, _, _, _, _, _, _, _, _, _, _, _, _, _, _, _, _, _, _, _, _, _, _, _, _, _, _, _, _, _, _, _, _, _, _, _, _, _, _, _, _, _, _, _, _, _, _, _, _, _, _, _, _, _, _, _, _, _, _, _, _, _, _, _, _, _, _, _, _, _, _, _, _, _, _, _, _, _, _, _, _, _, _, _, _, _, _, _, _, _, _, _, _, _, _, _, _, _, _, _, _, _, _, _, _, _, _, _, _, _, _, _, _, _, _, _, _, _, _, _, _, _, _, _, _, _, _, _, _, _, _, _, _, _, _, _, _, _, _, _, _, _, _, _, _, _, _, _, _, _, _, _, _, _, _, _, _, _, _, _, _, ?_, rfl⟩, ?_⟩
      · exact ⟨k + 1, o + k + 1, m - 1, rfl, by omega, fun _ => by omega, v1, hb1⟩
      · exact (by show m - 1 < m; omega)
  · have c8z : ¬ (8 : Int) < ((m - 1 : Nat) : Int) := by omega
    clear hp
    go_wp2
    refine ⟨⟨_, _, _, _, _, _, _, _, _, _, _, _, _, _, _, _, _, _, _, _, _, _, _, _, _, _, _, _, _, _, _, _, _, _, _, _, _, _, _, _, _, _, _, _, _, _, _, _, _, _, _, _, _, _, _, _, _, _, _, _, _, _, _, _, _, _, _, _, _, _, _, _, _, _, _, _, _, _, _, _, _, _, _, _, _, _, _, _, _, _, _, _, _, _, _, _, _, _, _, _, _, _, _, _, _, _, _, _, _, _, _, _, _, _, _, _, _, _, _, _, _, _, _, _, _, _, _, _, _, _, _, _, _, _, _, _, _, _, _, _, _, _, _, _, _, _, _, _, _, _, _, _, _, _, _, _, _, _, _, _, _, _, _, _, _, _, _, _, _, _, _, _, _, _, _, _, _, _, _, _, _, _, _, _, _, _, _, _, ?_, rfl⟩, ?_⟩
    · exact ⟨k + 1, o + k + 1, m - 1, rfl, by omega, fun _ => by omega, v1, hbw⟩
    · exact (by show m - 1 < m; omega)
end Go.Proofs.YtcnagbkdckipnaaGreatDoor
