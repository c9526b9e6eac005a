import Derived.Test.YtcnagbkdckipnaaGreatDoorLxValid1
import Derived.Test.YtcnagbkdckipnaaGreatDoorLxValid3
/-
  THE WALK over utf8.Valid: one case of its round.
-/
namespace Go.Proofs.YtcnagbkdckipnaaGreatDoor
open Go.RowKit Go.Lib

set_option maxRecDepth 1000000 in
set_option maxHeartbeats 16000000 in
theorem valid_h4 {f : Nat → Nat} {n b o : Nat} {w : World} {ANS : Bool} {Q0 : Exit → Act → World → Prop} (hT : Lib.Utf8Tabs 1 2 w) (hf : ∀ j, f j < 256) (hp : Bytes w b o n f) (hx : Lx.Vx w ANS Q0)
    (k m : Nat) (wr : World) (hkm : k + m = n) (h0 : 0 < m) (hv : Lx.V f n k = ANS) (hbw : Below w.heap.size w wr) (u1 u2 u3 u4 u5 u6 u7 u8 u9 u10 u11 u12 u13 u14 u15 u16 u17 u18 u19 u20 u21 u22 u23 u24 u25 u26 u27 u28 u29 u30 u31 u32 u33 u34 u35 u36 u37 u38 u39 u40 u41 u42 u43 u44 u45 u46 u47 u48 u49 u50 u51 u52 u53 u54 u55 u56 u57 u58 u59 u60 u61 u62 u63 u64 u65 u66 u67 u68 u69 u70 u71 u72 u73 u74 u75 u76 u77 u78 u79 u80 u81 u82 u83 u84 u85 u86 u87 u88 u89 u90 u91 u92 u93 u94 u95 u96 u97 u98 u99 u100 u101 u102 u103 u104 u105 u106 u107 u108 u109 u110 u111 u112 u113 u114 u115 u116 u117 u118 u119 u120 u121 u122 u123 u124 u125 u126 u127 u128 u129 u130 u131 u132 u133 u134 u135 u136 u137 u138 u139 u140 u141 u142 u143 u144 u145 u146 u147 u148 u149 u150 u151 u152 u153 u154 u155 u156 u157 u158 u159 u160 u161 u162 u163 u164 u165 u166 u167 u168 u169 u170 u171 u172 u173 u174 u175 u176 u177 u178 u179 u180 u181 u182 u183 u184 u185 u186 u187 : Value) (hlow : ¬ f k < 128) (s4 : Lib.firstT (f k) % 8 = 4) :
    Code.wp Tryz.prog ((Tryz.f32.body.bind Lx.lp).getD .skip) (Exit.then (fun a' w' => Lx.VI w b o n f ANS a' w' ∧ Lx.Vmu a' w' < Lx.Vmu ⟨(.slice (some ⟨b, o + k, none⟩) m m :: u1 :: u2 :: u3 :: u4 :: u5 :: u6 :: u7 :: u8 :: u9 :: u10 :: u11 :: u12 :: u13 :: u14 :: u15 :: u16 :: u17 :: u18 :: u19 :: u20 :: u21 :: u22 :: u23 :: u24 :: u25 :: u26 :: u27 :: u28 :: u29 :: u30 :: u31 :: u32 :: u33 :: u34 :: u35 :: u36 :: u37 :: u38 :: u39 :: u40 :: u41 :: u42 :: u43 :: u44 :: u45 :: u46 :: u47 :: u48 :: u49 :: u50 :: u51 :: u52 :: u53 :: u54 :: u55 :: u56 :: u57 :: u58 :: u59 :: u60 :: u61 :: u62 :: u63 :: u64 :: u65 :: u66 :: u67 :: u68 :: u69 :: u70 :: u71 :: u72 :: u73 :: u74 :: u75 :: u76 :: u77 :: u78 :: u79 :: u80 :: u81 :: u82 :: u83 :: u84 :: u85 :: u86 :: u87 :: u88 :: u89 :: u90 :: u91 :: u92 :: u93 :: u94 :: u95 :: u96 :: u97 :: u98 :: u99 :: u100 :: u101 :: u102 :: u103 :: u104 :: u105 :: u106 :: u107 :: u108 :: u109 :: u110 :: u111 :: u112 :: u113 :: u114 :: u115 :: u116 :: u117 :: u118 :: u119 :: u120 :: u121 :: u122 :: u123 :: u124 :: u125 :: u126 :: u127 :: u128 :: u129 :: u130 :: u131 :: u132 :: u133 :: u134 :: u135 :: u136 :: u137 :: u138 :: u139 :: u140 :: u141 :: u142 :: u143 :: u144 :: u145 :: u146 :: u147 :: u148 :: u149 :: u150 :: u151 :: u152 :: u153 :: u154 :: u155 :: u156 :: u157 :: u158 :: u159 :: u160 :: u161 :: u162 :: u163 :: u164 :: u165 :: u166 :: u167 :: u168 :: u169 :: u170 :: u171 :: u172 :: u173 :: u174 :: u175 :: u176 :: u177 :: u178 :: u179 :: u180 :: u181 :: u182 :: u183 :: u184 :: u185 :: u186 :: u187 :: []).toArray, []⟩ wr) Q0) ⟨(.slice (some ⟨b, o + k, none⟩) m m :: u1 :: u2 :: u3 :: u4 :: u5 :: u6 :: u7 :: u8 :: u9 :: u10 :: u11 :: u12 :: u13 :: u14 :: u15 :: u16 :: u17 :: u18 :: u19 :: u20 :: u21 :: u22 :: u23 :: u24 :: u25 :: u26 :: u27 :: u28 :: u29 :: u30 :: u31 :: u32 :: u33 :: u34 :: u35 :: u36 :: u37 :: u38 :: u39 :: u40 :: u41 :: u42 :: u43 :: u44 :: u45 :: u46 :: u47 :: u48 :: u49 :: u50 :: u51 :: u52 :: u53 :: u54 :: u55 :: u56 :: u57 :: u58 :: u59 :: u60 :: u61 :: u62 :: u63 :: u64 :: u65 :: u66 :: u67 :: u68 :: u69 :: u70 :: u71 :: u72 :: u73 :: u74 :: u75 :: u76 :: u77 :: u78 :: u79 :: u80 :: u81 :: u82 :: u83 :: u84 :: u85 :: u86 :: u87 :: u88 :: u89 :: u90 :: u91 :: u92 :: u93 :: u94 :: u95 :: u96 :: u97 :: u98 :: u99 :: u100 :: u101 :: u102 :: u103 :: u104 :: u105 :: u106 :: u107 :: u108 :: u109 :: u110 :: u111 :: u112 :: u113 :: u114 :: u115 :: u116 :: u117 :: u118 :: u119 :: u120 :: u121 :: u122 :: u123 :: u124 :: u125 :: u126 :: u127 :: u128 :: u129 :: u130 :: u131 :: u132 :: u133 :: u134 :: u135 :: u136 :: u137 :: u138 :: u139 :: u140 :: u141 :: u142 :: u143 :: u144 :: u145 :: u146 :: u147 :: u148 :: u149 :: u150 :: u151 :: u152 :: u153 :: u154 :: u155 :: u156 :: u157 :: u158 :: u159 :: u160 :: u161 :: u162 :: u163 :: u164 :: u165 :: u166 :: u167 :: u168 :: u169 :: u170 :: u171 :: u172 :: u173 :: u174 :: u175 :: u176 :: u177 :: u178 :: u179 :: u180 :: u181 :: u182 :: u183 :: u184 :: u185 :: u186 :: u187 :: []).toArray, []⟩ wr := by
  have h0z : (0 : Int) < m := by omega
  have hb0 : wr.cell? ⟨b, o + k, none⟩ = some (.int .u8 (f k)) := (hp.below hbw (Nat.le_refl _)) k (by omega)
  obtain ⟨hx1, hx2⟩ := hx
  conv => arg 2; whnf
  have hge : 128 ≤ f k := by omega
  have hlz : ¬ (f k : Int) < 128 := by omega
  have hTr := tabs_below hT hbw (Nat.le_refl _)
  have k256 : f k < 256 := hf k
  have k256z : (f k : Int) < 256 := by omega
  have hc0 := hTr.1 (f k) (hf k)
  have HC : Hid (∀ ob j, j < m → ∀ y, f (k + j) = y → (wr.alloc ob).cell? ⟨b, o + k + j, none⟩ = some (.int .u8 y)) := hide' (fun ob j hj y hy => by
    have := ((hp.below hbw (Nat.le_refl _)).below ((Below.refl wr.heap.size wr).alloc (Nat.le_refl _) ob) (Nat.le_refl _)) (k + j) (by omega)
    rw [← Nat.add_assoc] at this
    rw [← hy]
    exact this)
  have hXlt := Lx.first_lt (f k)
  obtain ⟨X, hX⟩ : ∃ X, Lib.firstT (f k) = X := ⟨_, rfl⟩
  rw [hX] at hc0 hXlt
  have h7 := Lx.and_seven ⟨X, hXlt⟩
  simp only at h7
  have ha0 : wr.cell? ⟨2, X / 16 * 2, none⟩ = some (.int .u8 (Lib.accLo (X / 16))) := by rw [Nat.mul_comm]; exact (hTr.2 (X / 16) (by omega)).1
  have ha1 : wr.cell? ⟨2, X / 16 * 2 + 1, none⟩ = some (.int .u8 (Lib.accHi (X / 16))) := by rw [Nat.mul_comm]; exact (hTr.2 (X / 16) (by omega)).2
  obtain ⟨LO, hLO⟩ : ∃ LO, Lib.accLo (X / 16) = LO := ⟨_, rfl⟩
  obtain ⟨HI, hHI⟩ : ∃ HI, Lib.accHi (X / 16) = HI := ⟨_, rfl⟩
  rw [hLO] at ha0
  rw [hHI] at ha1
  obtain ⟨y1, hy1⟩ : ∃ y, f (k + 1) = y := ⟨_, rfl⟩
  obtain ⟨y2, hy2⟩ : ∃ y, f (k + 2) = y := ⟨_, rfl⟩
  obtain ⟨y3, hy3⟩ : ∃ y, f (k + 3) = y := ⟨_, rfl⟩
  have m1 := hf (k + 1)
  have m2 := hf (k + 2)
  have m3 := hf (k + 3)
  rw [hy1] at m1
  rw [hy2] at m2
  rw [hy3] at m3
  have HX := hide' hX
  have HLO := hide' hLO
  have HHI := hide' hHI
  have HY1 := hide' hy1
  have HY2 := hide' hy2
  have HY3 := hide' hy3
  clear hTr hT hX hLO hHI hy1 hy2 hy3 hp
  have s4 : X % 8 = 4 := by rw [← HX.out]; exact s4
  have hSZ : (X : Int) % 8 = 4 := by omega
  have hlead : Lx.V f n k = if (m < 4 ∨ y1 < LO ∨ HI < y1 ∨ y2 < 128 ∨ 191 < y2 ∨ y3 < 128 ∨ 191 < y3) then false else Lx.V f n (k + 4) := by
    have := Lx.V_four hf (show k < n by omega) (show 128 ≤ f k by omega) (by rw [HX.out]; exact s4)
    rw [HX.out, HLO.out, HHI.out, show n - k = m by omega, HY1.out, HY2.out, HY3.out] at this
    exact this
  rw [hv] at hlead
  have HL := hide' hlead
  clear hlead hv s4
  go_upto_region 26 with fail
  go_cut [185] from 143 to 185 (fun c wx => c = .bool (decide (m < 4 ∨ y1 < LO ∨ HI < y1 ∨ y2 < 128 ∨ 191 < y2 ∨ y3 < 128 ∨ 191 < y3)) ∧ Below w.heap.size w wx)
  case first =>
    by_cases q0 : m < 4
    · have r0 : (m : Int) < 4 := by omega
      go_quiet (fail)
      go_wp2
      go_meet
      exact ⟨congrArg Value.bool (decide_eq_true (p := m < 4 ∨ y1 < LO ∨ HI < y1 ∨ y2 < 128 ∨ 191 < y2 ∨ y3 < 128 ∨ 191 < y3) (by omega)).symm, below_drewN (hbw.alloc hbw.size _) _⟩
    · have r0 : ¬ (m : Int) < 4 := by omega
      have z1 : (1 : Int) < (m : Int) := by omega
      have d1 : ∀ ob, (wr.alloc ob).cell? ⟨b, o + k + 1, none⟩ = some (.int .u8 y1) := fun ob => HC.out ob 1 (by omega) y1 HY1.out
      have z2 : (2 : Int) < (m : Int) := by omega
      have d2 : ∀ ob, (wr.alloc ob).cell? ⟨b, o + k + 2, none⟩ = some (.int .u8 y2) := fun ob => HC.out ob 2 (by omega) y2 HY2.out
      have z3 : (3 : Int) < (m : Int) := by omega
      have d3 : ∀ ob, (wr.alloc ob).cell? ⟨b, o + k + 3, none⟩ = some (.int .u8 y3) := fun ob => HC.out ob 3 (by omega) y3 HY3.out
      by_cases q1 : y1 < LO
      · have r1 : (y1 : Int) < (LO : Int) := by omega
        go_quiet (fail)
        go_wp2
        go_meet
        exact ⟨congrArg Value.bool (decide_eq_true (p := m < 4 ∨ y1 < LO ∨ HI < y1 ∨ y2 < 128 ∨ 191 < y2 ∨ y3 < 128 ∨ 191 < y3) (by omega)).symm, below_drewN (hbw.alloc hbw.size _) _⟩
      · have r1 : ¬ (y1 : Int) < (LO : Int) := by omega
        by_cases q2 : HI < y1
        · have r2 : (HI : Int) < (y1 : Int) := by omega
          go_quiet (fail)
          go_wp2
          go_meet
          exact ⟨congrArg Value.bool (decide_eq_true (p := m < 4 ∨ y1 < LO ∨ HI < y1 ∨ y2 < 128 ∨ 191 < y2 ∨ y3 < 128 ∨ 191 < y3) (by omega)).symm, below_drewN (hbw.alloc hbw.size _) _⟩
        · have r2 : ¬ (HI : Int) < (y1 : Int) := by omega
          by_cases q3 : y2 < 128
          · have r3 : (y2 : Int) < 128 := by omega
            go_quiet (fail)
            go_wp2
            go_meet
            exact ⟨congrArg Value.bool (decide_eq_true (p := m < 4 ∨ y1 < LO ∨ HI < y1 ∨ y2 < 128 ∨ 191 < y2 ∨ y3 < 128 ∨ 191 < y3) (by omega)).symm, below_drewN (hbw.alloc hbw.size _) _⟩
          · have r3 : ¬ (y2 : Int) < 128 := by omega
            by_cases q4 : 191 < y2
            · have r4 : (191 : Int) < (y2 : Int) := by omega
              go_quiet (fail)
              go_wp2
              go_meet
              exact ⟨congrArg Value.bool (decide_eq_true (p := m < 4 ∨ y1 < LO ∨ HI < y1 ∨ y2 < 128 ∨ 191 < y2 ∨ y3 < 128 ∨ 191 < y3) (by omega)).symm, below_drewN (hbw.alloc hbw.size _) _⟩
            · have r4 : ¬ (191 : Int) < (y2 : Int) := by omega
              by_cases q5 : y3 < 128
              · have r5 : (y3 : Int) < 128 := by omega
                go_quiet (fail)
                go_wp2
                go_meet
                exact ⟨congrArg Value.bool (decide_eq_true (p := m < 4 ∨ y1 < LO ∨ HI < y1 ∨ y2 < 128 ∨ 191 < y2 ∨ y3 < 128 ∨ 191 < y3) (by omega)).symm, below_drewN (hbw.alloc hbw.size _) _⟩
              · have r5 : ¬ (y3 : Int) < 128 := by omega
                by_cases q6 : 191 < y3
                · have r6 : (191 : Int) < (y3 : Int) := by omega
                  go_quiet (fail)
                  go_wp2
                  go_meet
                  exact ⟨congrArg Value.bool (decide_eq_true (p := m < 4 ∨ y1 < LO ∨ HI < y1 ∨ y2 < 128 ∨ 191 < y2 ∨ y3 < 128 ∨ 191 < y3) (by omega)).symm, below_drewN (hbw.alloc hbw.size _) _⟩
                · have r6 : ¬ (191 : Int) < (y3 : Int) := by omega
                  go_quiet (fail)
                  go_wp2
                  go_meet
                  exact ⟨congrArg Value.bool (decide_eq_false (p := m < 4 ∨ y1 < LO ∨ HI < y1 ∨ y2 < 128 ∨ 191 < y2 ∨ y3 < 128 ∨ 191 < y3) (by omega)).symm, below_drewN (hbw.alloc hbw.size _) _⟩
  case rest =>
    obtain ⟨rfl, hbc⟩ := hcut
    have hlead := HL.out
    clear HL
    by_cases hb : m < 4 ∨ y1 < LO ∨ HI < y1 ∨ y2 < 128 ∨ 191 < y2 ∨ y3 < 128 ∨ 191 < y3
    · have hbd : decide (m < 4 ∨ y1 < LO ∨ HI < y1 ∨ y2 < 128 ∨ 191 < y2 ∨ y3 < 128 ∨ 191 < y3) = true := decide_eq_true hb
      rw [if_pos hb] at hlead
      subst hlead
      go_wp2
      apply hx2
      · exact hbc
      · first | rfl | trivial
    · have hbd : decide (m < 4 ∨ y1 < LO ∨ HI < y1 ∨ y2 < 128 ∨ 191 < y2 ∨ y3 < 128 ∨ 191 < y3) = false := decide_eq_false hb
      rw [if_neg hb] at hlead
      have HLL := hide' hlead
      clear hlead
      have sz1 : (4 : Int) ≤ (m : Int) := by omega
      have esz : (m : Int) - 4 = ((m - 4 : Nat) : Int) := by omega
      by_cases me : m = 4
      · subst me
        go_wp2
        refine ⟨⟨_, _, _, _, _, _, _, _, _, _, _, _, _, _, _, _, _, _, _, _, _, _, _, _, _, _, _, _, _, _, _, _, _, _, _, _, _, _, _, _, _, _, _, _, _, _, _, _, _, _, _, _, _, _, _, _, _, _, _, _, _, _, _, _, _, _, _, _, _, _, _, _, _, _, _, _, _, _, _, _, _, _, _, _, _, _, _, _, _, _, _, _, _, _, _, _, _, _, _, _, _, _, _, _, _, _, _, _, _, _, _, _, _, _, _, _, _, _, _, _, _, _, _, _, _, _, _, _, _, _, _, _, _, _, _, _, _, _, _, _, _, _, _, _, _, _, _, _, _, _, _, _, _, _, _, _, _, _, _, _, _, _, _, _, _, _, _, _, _, _, _, _, _, _, _, _, _, _, _, _, _, _, _, _, _, _, _, _, ?_, rfl⟩, ?_⟩
        · exact ⟨k + 4, o + k, 0, rfl, by omega, fun h => by omega, HLL.out.symm, hbc⟩
        · exact (by show 0 < 4; omega)
      · have me' : ¬ m - 4 = 0 := by omega
        go_wp2
        refine ⟨⟨_, _, _, _, _, _, _, _, _, _, _, _, _, _, _, _, _, _, _, _, _, _, _, _, _, _, _, _, _, _, _, _, _, _, _, _, _, _, _, _, _, _, _, _, _, _, _, _, _, _, _, _, _, _, _, _, _, _, _, _, _, _, _, _, _, _, _, _, _, _, _, _, _, _, _, _, _, _, _, _, _, _, _, _, _, _, _, _, _, _, _, _, _, _, _, _, _, _, _, _, _, _, _, _, _, _, _, _, _, _, _, _, _, _, _, _, _, _, _, _, _, _, _, _, _, _, _, _, _, _, _, _, _, _, _, _, _, _, _, _, _, _, _, _, _, _, _, _, _, _, _, _, _, _, _, _, _, _, _, _, _, _, _, _, _, _, _, _, _, _, _, _, _, _, _, _, _, _, _, _, _, _, _, _, _, _, _, _, ?_, rfl⟩, ?_⟩
        · exact ⟨k + 4, o + k + 4, m - 4, rfl, by omega, fun _ => by omega, HLL.out.symm, hbc⟩
        · exact (by show m - 4 < m; omega)
end Go.Proofs.YtcnagbkdckipnaaGreatDoor
/-
  THE WALK over utf8.Valid: one case of its round.
-/
namespace Go.Proofs.YtcnagbkdckipnaaGreatDoor
open Go.RowKit Go.Lib

set_option maxRecDepth 1000000 in
set_option maxHeartbeats 16000000 in
theorem valid_no {f : Nat → Nat} {n b o : Nat} {w : World} {ANS : Bool} {Q0 : Exit → Act → World → Prop} (hT : Lib.Utf8Tabs 1 2 w) (hf : ∀ j, f j < 256) (hp : Bytes w b o n f) (hx : Lx.Vx w ANS Q0)
    (k m : Nat) (wr : World) (hkm : k + m = n) (h0 : 0 < m) (hv : Lx.V f n k = ANS) (hbw : Below w.heap.size w wr) (u1 u2 u3 u4 u5 u6 u7 u8 u9 u10 u11 u12 u13 u14 u15 u16 u17 u18 u19 u20 u21 u22 u23 u24 u25 u26 u27 u28 u29 u30 u31 u32 u33 u34 u35 u36 u37 u38 u39 u40 u41 u42 u43 u44 u45 u46 u47 u48 u49 u50 u51 u52 u53 u54 u55 u56 u57 u58 u59 u60 u61 u62 u63 u64 u65 u66 u67 u68 u69 u70 u71 u72 u73 u74 u75 u76 u77 u78 u79 u80 u81 u82 u83 u84 u85 u86 u87 u88 u89 u90 u91 u92 u93 u94 u95 u96 u97 u98 u99 u100 u101 u102 u103 u104 u105 u106 u107 u108 u109 u110 u111 u112 u113 u114 u115 u116 u117 u118 u119 u120 u121 u122 u123 u124 u125 u126 u127 u128 u129 u130 u131 u132 u133 u134 u135 u136 u137 u138 u139 u140 u141 u142 u143 u144 u145 u146 u147 u148 u149 u150 u151 u152 u153 u154 u155 u156 u157 u158 u159 u160 u161 u162 u163 u164 u165 u166 u167 u168 u169 u170 u171 u172 u173 u174 u175 u176 u177 u178 u179 u180 u181 u182 u183 u184 u185 u186 u187 : Value) (hlow : ¬ f k < 128) (s2 : Lib.firstT (f k) % 8 ≠ 2) (s3 : Lib.firstT (f k) % 8 ≠ 3) (s4 : Lib.firstT (f k) % 8 ≠ 4) :
    Code.wp Tryz.prog ((Tryz.f32.body.bind Lx.lp).getD .skip) (Exit.then (fun a' w' => Lx.VI w b o n f ANS a' w' ∧ Lx.Vmu a' w' < Lx.Vmu ⟨(.slice (some ⟨b, o + k, none⟩) m m :: u1 :: u2 :: u3 :: u4 :: u5 :: u6 :: u7 :: u8 :: u9 :: u10 :: u11 :: u12 :: u13 :: u14 :: u15 :: u16 :: u17 :: u18 :: u19 :: u20 :: u21 :: u22 :: u23 :: u24 :: u25 :: u26 :: u27 :: u28 :: u29 :: u30 :: u31 :: u32 :: u33 :: u34 :: u35 :: u36 :: u37 :: u38 :: u39 :: u40 :: u41 :: u42 :: u43 :: u44 :: u45 :: u46 :: u47 :: u48 :: u49 :: u50 :: u51 :: u52 :: u53 :: u54 :: u55 :: u56 :: u57 :: u58 :: u59 :: u60 :: u61 :: u62 :: u63 :: u64 :: u65 :: u66 :: u67 :: u68 :: u69 :: u70 :: u71 :: u72 :: u73 :: u74 :: u75 :: u76 :: u77 :: u78 :: u79 :: u80 :: u81 :: u82 :: u83 :: u84 :: u85 :: u86 :: u87 :: u88 :: u89 :: u90 :: u91 :: u92 :: u93 :: u94 :: u95 :: u96 :: u97 :: u98 :: u99 :: u100 :: u101 :: u102 :: u103 :: u104 :: u105 :: u106 :: u107 :: u108 :: u109 :: u110 :: u111 :: u112 :: u113 :: u114 :: u115 :: u116 :: u117 :: u118 :: u119 :: u120 :: u121 :: u122 :: u123 :: u124 :: u125 :: u126 :: u127 :: u128 :: u129 :: u130 :: u131 :: u132 :: u133 :: u134 :: u135 :: u136 :: u137 :: u138 :: u139 :: u140 :: u141 :: u142 :: u143 :: u144 :: u145 :: u146 :: u147 :: u148 :: u149 :: u150 :: u151 :: u152 :: u153 :: u154 :: u155 :: u156 :: u157 :: u158 :: u159 :: u160 :: u161 :: u162 :: u163 :: u164 :: u165 :: u166 :: u167 :: u168 :: u169 :: u170 :: u171 :: u172 :: u173 :: u174 :: u175 :: u176 :: u177 :: u178 :: u179 :: u180 :: u181 :: u182 :: u183 :: u184 :: u185 :: u186 :: u187 :: []).toArray, []⟩ wr) Q0) ⟨(.slice (some ⟨b, o + k, none⟩) m m :: u1 :: u2 :: u3 :: u4 :: u5 :: u6 :: u7 :: u8 :: u9 :: u10 :: u11 :: u12 :: u13 :: u14 :: u15 :: u16 :: u17 :: u18 :: u19 :: u20 :: u21 :: u22 :: u23 :: u24 :: u25 :: u26 :: u27 :: u28 :: u29 :: u30 :: u31 :: u32 :: u33 :: u34 :: u35 :: u36 :: u37 :: u38 :: u39 :: u40 :: u41 :: u42 :: u43 :: u44 :: u45 :: u46 :: u47 :: u48 :: u49 :: u50 :: u51 :: u52 :: u53 :: u54 :: u55 :: u56 :: u57 :: u58 :: u59 :: u60 :: u61 :: u62 :: u63 :: u64 :: u65 :: u66 :: u67 :: u68 :: u69 :: u70 :: u71 :: u72 :: u73 :: u74 :: u75 :: u76 :: u77 :: u78 :: u79 :: u80 :: u81 :: u82 :: u83 :: u84 :: u85 :: u86 :: u87 :: u88 :: u89 :: u90 :: u91 :: u92 :: u93 :: u94 :: u95 :: u96 :: u97 :: u98 :: u99 :: u100 :: u101 :: u102 :: u103 :: u104 :: u105 :: u106 :: u107 :: u108 :: u109 :: u110 :: u111 :: u112 :: u113 :: u114 :: u115 :: u116 :: u117 :: u118 :: u119 :: u120 :: u121 :: u122 :: u123 :: u124 :: u125 :: u126 :: u127 :: u128 :: u129 :: u130 :: u131 :: u132 :: u133 :: u134 :: u135 :: u136 :: u137 :: u138 :: u139 :: u140 :: u141 :: u142 :: u143 :: u144 :: u145 :: u146 :: u147 :: u148 :: u149 :: u150 :: u151 :: u152 :: u153 :: u154 :: u155 :: u156 :: u157 :: u158 :: u159 :: u160 :: u161 :: u162 :: u163 :: u164 :: u165 :: u166 :: u167 :: u168 :: u169 :: u170 :: u171 :: u172 :: u173 :: u174 :: u175 :: u176 :: u177 :: u178 :: u179 :: u180 :: u181 :: u182 :: u183 :: u184 :: u185 :: u186 :: u187 :: []).toArray, []⟩ wr := by
  have h0z : (0 : Int) < m := by omega
  have hb0 : wr.cell? ⟨b, o + k, none⟩ = some (.int .u8 (f k)) := (hp.below hbw (Nat.le_refl _)) k (by omega)
  obtain ⟨hx1, hx2⟩ := hx
  conv => arg 2; whnf
  have hge : 128 ≤ f k := by omega
  have hlz : ¬ (f k : Int) < 128 := by omega
  have hTr := tabs_below hT hbw (Nat.le_refl _)
  have k256 : f k < 256 := hf k
  have k256z : (f k : Int) < 256 := by omega
  have hc0 := hTr.1 (f k) (hf k)
  have HC : Hid (∀ ob j, j < m → ∀ y, f (k + j) = y → (wr.alloc ob).cell? ⟨b, o + k + j, none⟩ = some (.int .u8 y)) := hide' (fun ob j hj y hy => by
    have := ((hp.below hbw (Nat.le_refl _)).below ((Below.refl wr.heap.size wr).alloc (Nat.le_refl _) ob) (Nat.le_refl _)) (k + j) (by omega)
    rw [← Nat.add_assoc] at this
    rw [← hy]
    exact this)
  have hXlt := Lx.first_lt (f k)
  obtain ⟨X, hX⟩ : ∃ X, Lib.firstT (f k) = X := ⟨_, rfl⟩
  rw [hX] at hc0 hXlt
  have h7 := Lx.and_seven ⟨X, hXlt⟩
  simp only at h7
  have ha0 : wr.cell? ⟨2, X / 16 * 2, none⟩ = some (.int .u8 (Lib.accLo (X / 16))) := by rw [Nat.mul_comm]; exact (hTr.2 (X / 16) (by omega)).1
  have ha1 : wr.cell? ⟨2, X / 16 * 2 + 1, none⟩ = some (.int .u8 (Lib.accHi (X / 16))) := by rw [Nat.mul_comm]; exact (hTr.2 (X / 16) (by omega)).2
  obtain ⟨LO, hLO⟩ : ∃ LO, Lib.accLo (X / 16) = LO := ⟨_, rfl⟩
  obtain ⟨HI, hHI⟩ : ∃ HI, Lib.accHi (X / 16) = HI := ⟨_, rfl⟩
  rw [hLO] at ha0
  rw [hHI] at ha1
  obtain ⟨y1, hy1⟩ : ∃ y, f (k + 1) = y := ⟨_, rfl⟩
  obtain ⟨y2, hy2⟩ : ∃ y, f (k + 2) = y := ⟨_, rfl⟩
  obtain ⟨y3, hy3⟩ : ∃ y, f (k + 3) = y := ⟨_, rfl⟩
  have m1 := hf (k + 1)
  have m2 := hf (k + 2)
  have m3 := hf (k + 3)
  rw [hy1] at m1
  rw [hy2] at m2
  rw [hy3] at m3
  have HX := hide' hX
  have HLO := hide' hLO
  have HHI := hide' hHI
  have HY1 := hide' hy1
  have HY2 := hide' hy2
  have HY3 := hide' hy3
  clear hTr hT hX hLO hHI hy1 hy2 hy3 hp
  have s2 : ¬ X % 8 = 2 := by rw [← HX.out]; exact s2
  have s3 : ¬ X % 8 = 3 := by rw [← HX.out]; exact s3
  have s4 : ¬ X % 8 = 4 := by rw [← HX.out]; exact s4
  have e2 : ¬ ((X : Int) % 8 = 2) := by omega
  have e3 : ¬ ((X : Int) % 8 = 3) := by omega
  have e4 : ¬ ((X : Int) % 8 = 4) := by omega
  have e2b : (((X : Int) % 8) == 2) = false := by simp; omega
  have e3b : (((X : Int) % 8) == 3) = false := by simp; omega
  have e4b : (((X : Int) % 8) == 4) = false := by simp; omega
  rw [Lx.V_none hf (show k < n by omega) hge (by rw [HX.out]; exact s2) (by rw [HX.out]; exact s3) (by rw [HX.out]; exact s4)] at hv
  subst hv
  go_wp2
  apply hx2
  · exact hbw.alloc hbw.size _
  · first | rfl | trivial
end Go.Proofs.YtcnagbkdckipnaaGreatDoor
/-
  THE WALK over utf8.Valid at a slice of bytes.
-/
namespace Go.Proofs.YtcnagbkdckipnaaGreatDoor
open Go.RowKit Go.Lib
set_option maxRecDepth 1000000 in
set_option maxHeartbeats 16000000 in
theorem valid_round {f : Nat → Nat} {n b o : Nat} {w : World} {ANS : Bool} {Q0 : Exit → Act → World → Prop} (hT : Lib.Utf8Tabs 1 2 w) (hf : ∀ j, f j < 256) (hp : Bytes w b o n f) (hx : Lx.Vx w ANS Q0) (a : Act) (wr : World) (hI : Lx.VI w b o n f ANS a wr) :
    Code.wp Tryz.prog ((Tryz.f32.body.bind Lx.lp).getD .skip) (Exit.then (fun a' w' => Lx.VI w b o n f ANS a' w' ∧ Lx.Vmu a' w' < Lx.Vmu a wr) Q0) a wr := by
  unfold Lx.VI at hI
  obtain ⟨u0, hI⟩ := hI
  obtain ⟨u1, hI⟩ := hI
  obtain ⟨u2, hI⟩ := hI
  obtain ⟨u3, hI⟩ := hI
  obtain ⟨u4, hI⟩ := hI
  obtain ⟨u5, hI⟩ := hI
  obtain ⟨u6, hI⟩ := hI
  obtain ⟨u7, hI⟩ := hI
  obtain ⟨u8, hI⟩ := hI
  obtain ⟨u9, hI⟩ := hI
  obtain ⟨u10, hI⟩ := hI
  obtain ⟨u11, hI⟩ := hI
  obtain ⟨u12, hI⟩ := hI
  obtain ⟨u13, hI⟩ := hI
  obtain ⟨u14, hI⟩ := hI
  obtain ⟨u15, hI⟩ := hI
  obtain ⟨u16, hI⟩ := hI
  obtain ⟨u17, hI⟩ := hI
  obtain ⟨u18, hI⟩ := hI
  obtain ⟨u19, hI⟩ := hI
  obtain ⟨u20, hI⟩ := hI
  obtain ⟨u21, hI⟩ := hI
  obtain ⟨u22, hI⟩ := hI
  obtain ⟨u23, hI⟩ := hI
  obtain ⟨u24, hI⟩ := hI
  obtain ⟨u25, hI⟩ := hI
  obtain ⟨u26, hI⟩ := hI
  obtain ⟨u27, hI⟩ := hI
  obtain ⟨u28, hI⟩ := hI
  obtain ⟨u29, hI⟩ := hI
  obtain ⟨u30, hI⟩ := hI
  obtain ⟨u31, hI⟩ := hI
  obtain ⟨u32, hI⟩ := hI
  obtain ⟨u33, hI⟩ := hI
  obtain ⟨u34, hI⟩ := hI
  obtain ⟨u35, hI⟩ := hI
  obtain ⟨u36, hI⟩ := hI
  obtain ⟨u37, hI⟩ := hI
  obtain ⟨u38, hI⟩ := hI
  obtain ⟨u39, hI⟩ := hI
  obtain ⟨u40, hI⟩ := hI
  obtain ⟨u41, hI⟩ := hI
  obtain ⟨u42, hI⟩ := hI
  obtain ⟨u43, hI⟩ := hI
  obtain ⟨u44, hI⟩ := hI
  obtain ⟨u45, hI⟩ := hI
  obtain ⟨u46, hI⟩ := hI
  obtain ⟨u47, hI⟩ := hI
  obtain ⟨u48, hI⟩ := hI
  obtain ⟨u49, hI⟩ := hI
  obtain ⟨u50, hI⟩ := hI
  obtain ⟨u51, hI⟩ := hI
  obtain ⟨u52, hI⟩ := hI
  obtain ⟨u53, hI⟩ := hI
  obtain ⟨u54, hI⟩ := hI
  obtain ⟨u55, hI⟩ := hI
  obtain ⟨u56, hI⟩ := hI
  obtain ⟨u57, hI⟩ := hI
  obtain ⟨u58, hI⟩ := hI
  obtain ⟨u59, hI⟩ := hI
  obtain ⟨u60, hI⟩ := hI
  obtain ⟨u61, hI⟩ := hI
  obtain ⟨u62, hI⟩ := hI
  obtain ⟨u63, hI⟩ := hI
  obtain ⟨u64, hI⟩ := hI
  obtain ⟨u65, hI⟩ := hI
  obtain ⟨u66, hI⟩ := hI
  obtain ⟨u67, hI⟩ := hI
  obtain ⟨u68, hI⟩ := hI
  obtain ⟨u69, hI⟩ := hI
  obtain ⟨u70, hI⟩ := hI
  obtain ⟨u71, hI⟩ := hI
  obtain ⟨u72, hI⟩ := hI
  obtain ⟨u73, hI⟩ := hI
  obtain ⟨u74, hI⟩ := hI
  obtain ⟨u75, hI⟩ := hI
  obtain ⟨u76, hI⟩ := hI
  obtain ⟨u77, hI⟩ := hI
  obtain ⟨u78, hI⟩ := hI
  obtain ⟨u79, hI⟩ := hI
  obtain ⟨u80, hI⟩ := hI
  obtain ⟨u81, hI⟩ := hI
  obtain ⟨u82, hI⟩ := hI
  obtain ⟨u83, hI⟩ := hI
  obtain ⟨u84, hI⟩ := hI
  obtain ⟨u85, hI⟩ := hI
  obtain ⟨u86, hI⟩ := hI
  obtain ⟨u87, hI⟩ := hI
  obtain ⟨u88, hI⟩ := hI
  obtain ⟨u89, hI⟩ := hI
  obtain ⟨u90, hI⟩ := hI
  obtain ⟨u91, hI⟩ := hI
  obtain ⟨u92, hI⟩ := hI
  obtain ⟨u93, hI⟩ := hI
  obtain ⟨u94, hI⟩ := hI
  obtain ⟨u95, hI⟩ := hI
  obtain ⟨u96, hI⟩ := hI
  obtain ⟨u97, hI⟩ := hI
  obtain ⟨u98, hI⟩ := hI
  obtain ⟨u99, hI⟩ := hI
  obtain ⟨u100, hI⟩ := hI
  obtain ⟨u101, hI⟩ := hI
  obtain ⟨u102, hI⟩ := hI
  obtain ⟨u103, hI⟩ := hI
  obtain ⟨u104, hI⟩ := hI
  obtain ⟨u105, hI⟩ := hI
  obtain ⟨u106, hI⟩ := hI
  obtain ⟨u107, hI⟩ := hI
  obtain ⟨u108, hI⟩ := hI
  obtain ⟨u109, hI⟩ := hI
  obtain ⟨u110, hI⟩ := hI
  obtain ⟨u111, hI⟩ := hI
  obtain ⟨u112, hI⟩ := hI
  obtain ⟨u113, hI⟩ := hI
  obtain ⟨u114, hI⟩ := hI
  obtain ⟨u115, hI⟩ := hI
  obtain ⟨u116, hI⟩ := hI
  obtain ⟨u117, hI⟩ := hI
  obtain ⟨u118, hI⟩ := hI
  obtain ⟨u119, hI⟩ := hI
  obtain ⟨u120, hI⟩ := hI
  obtain ⟨u121, hI⟩ := hI
  obtain ⟨u122, hI⟩ := hI
  obtain ⟨u123, hI⟩ := hI
  obtain ⟨u124, hI⟩ := hI
  obtain ⟨u125, hI⟩ := hI
  obtain ⟨u126, hI⟩ := hI
  obtain ⟨u127, hI⟩ := hI
  obtain ⟨u128, hI⟩ := hI
  obtain ⟨u129, hI⟩ := hI
  obtain ⟨u130, hI⟩ := hI
  obtain ⟨u131, hI⟩ := hI
  obtain ⟨u132, hI⟩ := hI
  obtain ⟨u133, hI⟩ := hI
  obtain ⟨u134, hI⟩ := hI
  obtain ⟨u135, hI⟩ := hI
  obtain ⟨u136, hI⟩ := hI
  obtain ⟨u137, hI⟩ := hI
  obtain ⟨u138, hI⟩ := hI
  obtain ⟨u139, hI⟩ := hI
  obtain ⟨u140, hI⟩ := hI
  obtain ⟨u141, hI⟩ := hI
  obtain ⟨u142, hI⟩ := hI
  obtain ⟨u143, hI⟩ := hI
  obtain ⟨u144, hI⟩ := hI
  obtain ⟨u145, hI⟩ := hI
  obtain ⟨u146, hI⟩ := hI
  obtain ⟨u147, hI⟩ := hI
  obtain ⟨u148, hI⟩ := hI
  obtain ⟨u149, hI⟩ := hI
  obtain ⟨u150, hI⟩ := hI
  obtain ⟨u151, hI⟩ := hI
  obtain ⟨u152, hI⟩ := hI
  obtain ⟨u153, hI⟩ := hI
  obtain ⟨u154, hI⟩ := hI
  obtain ⟨u155, hI⟩ := hI
  obtain ⟨u156, hI⟩ := hI
  obtain ⟨u157, hI⟩ := hI
  obtain ⟨u158, hI⟩ := hI
  obtain ⟨u159, hI⟩ := hI
  obtain ⟨u160, hI⟩ := hI
  obtain ⟨u161, hI⟩ := hI
  obtain ⟨u162, hI⟩ := hI
  obtain ⟨u163, hI⟩ := hI
  obtain ⟨u164, hI⟩ := hI
  obtain ⟨u165, hI⟩ := hI
  obtain ⟨u166, hI⟩ := hI
  obtain ⟨u167, hI⟩ := hI
  obtain ⟨u168, hI⟩ := hI
  obtain ⟨u169, hI⟩ := hI
  obtain ⟨u170, hI⟩ := hI
  obtain ⟨u171, hI⟩ := hI
  obtain ⟨u172, hI⟩ := hI
  obtain ⟨u173, hI⟩ := hI
  obtain ⟨u174, hI⟩ := hI
  obtain ⟨u175, hI⟩ := hI
  obtain ⟨u176, hI⟩ := hI
  obtain ⟨u177, hI⟩ := hI
  obtain ⟨u178, hI⟩ := hI
  obtain ⟨u179, hI⟩ := hI
  obtain ⟨u180, hI⟩ := hI
  obtain ⟨u181, hI⟩ := hI
  obtain ⟨u182, hI⟩ := hI
  obtain ⟨u183, hI⟩ := hI
  obtain ⟨u184, hI⟩ := hI
  obtain ⟨u185, hI⟩ := hI
  obtain ⟨u186, hI⟩ := hI
  obtain ⟨u187, hI⟩ := hI
  obtain ⟨⟨k, q, m, rfl, hkm, hq, hv, hbw⟩, rfl⟩ := hI
  by_cases h0 : 0 < m
  · obtain rfl := hq h0
    by_cases hlow : f k < 128
    · exact valid_low hf hp hx k m wr hkm h0 hv hbw u1 u2 u3 u4 u5 u6 u7 u8 u9 u10 u11 u12 u13 u14 u15 u16 u17 u18 u19 u20 u21 u22 u23 u24 u25 u26 u27 u28 u29 u30 u31 u32 u33 u34 u35 u36 u37 u38 u39 u40 u41 u42 u43 u44 u45 u46 u47 u48 u49 u50 u51 u52 u53 u54 u55 u56 u57 u58 u59 u60 u61 u62 u63 u64 u65 u66 u67 u68 u69 u70 u71 u72 u73 u74 u75 u76 u77 u78 u79 u80 u81 u82 u83 u84 u85 u86 u87 u88 u89 u90 u91 u92 u93 u94 u95 u96 u97 u98 u99 u100 u101 u102 u103 u104 u105 u106 u107 u108 u109 u110 u111 u112 u113 u114 u115 u116 u117 u118 u119 u120 u121 u122 u123 u124 u125 u126 u127 u128 u129 u130 u131 u132 u133 u134 u135 u136 u137 u138 u139 u140 u141 u142 u143 u144 u145 u146 u147 u148 u149 u150 u151 u152 u153 u154 u155 u156 u157 u158 u159 u160 u161 u162 u163 u164 u165 u166 u167 u168 u169 u170 u171 u172 u173 u174 u175 u176 u177 u178 u179 u180 u181 u182 u183 u184 u185 u186 u187 hlow
    · by_cases s2 : Lib.firstT (f k) % 8 = 2
      · exact valid_h2 hT hf hp hx k m wr hkm h0 hv hbw u1 u2 u3 u4 u5 u6 u7 u8 u9 u10 u11 u12 u13 u14 u15 u16 u17 u18 u19 u20 u21 u22 u23 u24 u25 u26 u27 u28 u29 u30 u31 u32 u33 u34 u35 u36 u37 u38 u39 u40 u41 u42 u43 u44 u45 u46 u47 u48 u49 u50 u51 u52 u53 u54 u55 u56 u57 u58 u59 u60 u61 u62 u63 u64 u65 u66 u67 u68 u69 u70 u71 u72 u73 u74 u75 u76 u77 u78 u79 u80 u81 u82 u83 u84 u85 u86 u87 u88 u89 u90 u91 u92 u93 u94 u95 u96 u97 u98 u99 u100 u101 u102 u103 u104 u105 u106 u107 u108 u109 u110 u111 u112 u113 u114 u115 u116 u117 u118 u119 u120 u121 u122 u123 u124 u125 u126 u127 u128 u129 u130 u131 u132 u133 u134 u135 u136 u137 u138 u139 u140 u141 u142 u143 u144 u145 u146 u147 u148 u149 u150 u151 u152 u153 u154 u155 u156 u157 u158 u159 u160 u161 u162 u163 u164 u165 u166 u167 u168 u169 u170 u171 u172 u173 u174 u175 u176 u177 u178 u179 u180 u181 u182 u183 u184 u185 u186 u187 hlow s2
      · by_cases s3 : Lib.firstT (f k) % 8 = 3
        · exact valid_h3 hT hf hp hx k m wr hkm h0 hv hbw u1 u2 u3 u4 u5 u6 u7 u8 u9 u10 u11 u12 u13 u14 u15 u16 u17 u18 u19 u20 u21 u22 u23 u24 u25 u26 u27 u28 u29 u30 u31 u32 u33 u34 u35 u36 u37 u38 u39 u40 u41 u42 u43 u44 u45 u46 u47 u48 u49 u50 u51 u52 u53 u54 u55 u56 u57 u58 u59 u60 u61 u62 u63 u64 u65 u66 u67 u68 u69 u70 u71 u72 u73 u74 u75 u76 u77 u78 u79 u80 u81 u82 u83 u84 u85 u86 u87 u88 u89 u90 u91 u92 u93 u94 u95 u96 u97 u98 u99 u100 u101 u102 u103 u104 u105 u106 u107 u108 u109 u110 u111 u112 u113 u114 u115 u116 u117 u118 u119 u120 u121 u122 u123 u124 u125 u126 u127 u128 u129 u130 u131 u132 u133 u134 u135 u136 u137 u138 u139 u140 u141 u142 u143 u144 u145 u146 u147 u148 u149 u150 u151 u152 u153 u154 u155 u156 u157 u158 u159 u160 u161 u162 u163 u164 u165 u166 u167 u168 u169 u170 u171 u172 u173 u174 u175 u176 u177 u178 u179 u180 u181 u182 u183 u184 u185 u186 u187 hlow s3
        · by_cases s4 : Lib.firstT (f k) % 8 = 4
          · exact valid_h4 hT hf hp hx k m wr hkm h0 hv hbw u1 u2 u3 u4 u5 u6 u7 u8 u9 u10 u11 u12 u13 u14 u15 u16 u17 u18 u19 u20 u21 u22 u23 u24 u25 u26 u27 u28 u29 u30 u31 u32 u33 u34 u35 u36 u37 u38 u39 u40 u41 u42 u43 u44 u45 u46 u47 u48 u49 u50 u51 u52 u53 u54 u55 u56 u57 u58 u59 u60 u61 u62 u63 u64 u65 u66 u67 u68 u69 u70 u71 u72 u73 u74 u75 u76 u77 u78 u79 u80 u81 u82 u83 u84 u85 u86 u87 u88 u89 u90 u91 u92 u93 u94 u95 u96 u97 u98 u99 u100 u101 u102 u103 u104 u105 u106 u107 u108 u109 u110 u111 u112 u113 u114 u115 u116 u117 u118 u119 u120 u121 u122 u123 u124 u125 u126 u127 u128 u129 u130 u131 u132 u133 u134 u135 u136 u137 u138 u139 u140 u141 u142 u143 u144 u145 u146 u147 u148 u149 u150 u151 u152 u153 u154 u155 u156 u157 u158 u159 u160 u161 u162 u163 u164 u165 u166 u167 u168 u169 u170 u171 u172 u173 u174 u175 u176 u177 u178 u179 u180 u181 u182 u183 u184 u185 u186 u187 hlow s4
          · exact valid_no hT hf hp hx k m wr hkm h0 hv hbw u1 u2 u3 u4 u5 u6 u7 u8 u9 u10 u11 u12 u13 u14 u15 u16 u17 u18 u19 u20 u21 u22 u23 u24 u25 u26 u27 u28 u29 u30 u31 u32 u33 u34 u35 u36 u37 u38 u39 u40 u41 u42 u43 u44 u45 u46 u47 u48 u49 u50 u51 u52 u53 u54 u55 u56 u57 u58 u59 u60 u61 u62 u63 u64 u65 u66 u67 u68 u69 u70 u71 u72 u73 u74 u75 u76 u77 u78 u79 u80 u81 u82 u83 u84 u85 u86 u87 u88 u89 u90 u91 u92 u93 u94 u95 u96 u97 u98 u99 u100 u101 u102 u103 u104 u105 u106 u107 u108 u109 u110 u111 u112 u113 u114 u115 u116 u117 u118 u119 u120 u121 u122 u123 u124 u125 u126 u127 u128 u129 u130 u131 u132 u133 u134 u135 u136 u137 u138 u139 u140 u141 u142 u143 u144 u145 u146 u147 u148 u149 u150 u151 u152 u153 u154 u155 u156 u157 u158 u159 u160 u161 u162 u163 u164 u165 u166 u167 u168 u169 u170 u171 u172 u173 u174 u175 u176 u177 u178 u179 u180 u181 u182 u183 u184 u185 u186 u187 hlow s2 s3 s4
  · obtain rfl : m = 0 := by omega
    rw [Lx.V_end _ _ _ (by omega)] at hv
    obtain ⟨hx1, _⟩ := hx
    clear hp hT hq
    conv => arg 2; whnf
    go_wp2
    apply hx1
    · exact hbw
    · exact hv.symm
set_option maxRecDepth 1000000 in
theorem valid_loop {f : Nat → Nat} {n b o : Nat} {w : World} {ANS : Bool} {Q0 : Exit → Act → World → Prop} (hT : Lib.Utf8Tabs 1 2 w) (hf : ∀ j, f j < 256) (hp : Bytes w b o n f) (hx : Lx.Vx w ANS Q0) (u0 u1 u2 u3 u4 u5 u6 u7 u8 u9 u10 u11 u12 u13 u14 u15 u16 u17 u18 u19 u20 u21 u22 u23 u24 u25 u26 u27 u28 u29 u30 u31 u32 u33 u34 u35 u36 u37 u38 u39 u40 u41 u42 u43 u44 u45 u46 u47 u48 u49 u50 u51 u52 u53 u54 u55 u56 u57 u58 u59 u60 u61 u62 u63 u64 u65 u66 u67 u68 u69 u70 u71 u72 u73 u74 u75 u76 u77 u78 u79 u80 u81 u82 u83 u84 u85 u86 u87 u88 u89 u90 u91 u92 u93 u94 u95 u96 u97 u98 u99 u100 u101 u102 u103 u104 u105 u106 u107 u108 u109 u110 u111 u112 u113 u114 u115 u116 u117 u118 u119 u120 u121 u122 u123 u124 u125 u126 u127 u128 u129 u130 u131 u132 u133 u134 u135 u136 u137 u138 u139 u140 u141 u142 u143 u144 u145 u146 u147 u148 u149 u150 u151 u152 u153 u154 u155 u156 u157 u158 u159 u160 u161 u162 u163 u164 u165 u166 u167 u168 u169 u170 u171 u172 u173 u174 u175 u176 u177 u178 u179 u180 u181 u182 u183 u184 u185 u186 u187 : Value) (wr : World) (hrel : Lx.Vst w b o n f ANS u0 wr) :
    Code.wp Tryz.prog (Code.loop ((Tryz.f32.body.bind Lx.lp).getD .skip)) Q0 ⟨(u0 :: u1 :: u2 :: u3 :: u4 :: u5 :: u6 :: u7 :: u8 :: u9 :: u10 :: u11 :: u12 :: u13 :: u14 :: u15 :: u16 :: u17 :: u18 :: u19 :: u20 :: u21 :: u22 :: u23 :: u24 :: u25 :: u26 :: u27 :: u28 :: u29 :: u30 :: u31 :: u32 :: u33 :: u34 :: u35 :: u36 :: u37 :: u38 :: u39 :: u40 :: u41 :: u42 :: u43 :: u44 :: u45 :: u46 :: u47 :: u48 :: u49 :: u50 :: u51 :: u52 :: u53 :: u54 :: u55 :: u56 :: u57 :: u58 :: u59 :: u60 :: u61 :: u62 :: u63 :: u64 :: u65 :: u66 :: u67 :: u68 :: u69 :: u70 :: u71 :: u72 :: u73 :: u74 :: u75 :: u76 :: u77 :: u78 :: u79 :: u80 :: u81 :: u82 :: u83 :: u84 :: u85 :: u86 :: u87 :: u88 :: u89 :: u90 :: u91 :: u92 :: u93 :: u94 :: u95 :: u96 :: u97 :: u98 :: u99 :: u100 :: u101 :: u102 :: u103 :: u104 :: u105 :: u106 :: u107 :: u108 :: u109 :: u110 :: u111 :: u112 :: u113 :: u114 :: u115 :: u116 :: u117 :: u118 :: u119 :: u120 :: u121 :: u122 :: u123 :: u124 :: u125 :: u126 :: u127 :: u128 :: u129 :: u130 :: u131 :: u132 :: u133 :: u134 :: u135 :: u136 :: u137 :: u138 :: u139 :: u140 :: u141 :: u142 :: u143 :: u144 :: u145 :: u146 :: u147 :: u148 :: u149 :: u150 :: u151 :: u152 :: u153 :: u154 :: u155 :: u156 :: u157 :: u158 :: u159 :: u160 :: u161 :: u162 :: u163 :: u164 :: u165 :: u166 :: u167 :: u168 :: u169 :: u170 :: u171 :: u172 :: u173 :: u174 :: u175 :: u176 :: u177 :: u178 :: u179 :: u180 :: u181 :: u182 :: u183 :: u184 :: u185 :: u186 :: u187 :: []).toArray, []⟩ wr := by
  refine wp_loop (Lx.VI w b o n f ANS) Lx.Vmu ?_ (fun a w'' hI => valid_round hT hf hp hx a w'' hI)
  unfold Lx.VI
  exact ⟨u0, u1, u2, u3, u4, u5, u6, u7, u8, u9, u10, u11, u12, u13, u14, u15, u16, u17, u18, u19, u20, u21, u22, u23, u24, u25, u26, u27, u28, u29, u30, u31, u32, u33, u34, u35, u36, u37, u38, u39, u40, u41, u42, u43, u44, u45, u46, u47, u48, u49, u50, u51, u52, u53, u54, u55, u56, u57, u58, u59, u60, u61, u62, u63, u64, u65, u66, u67, u68, u69, u70, u71, u72, u73, u74, u75, u76, u77, u78, u79, u80, u81, u82, u83, u84, u85, u86, u87, u88, u89, u90, u91, u92, u93, u94, u95, u96, u97, u98, u99, u100, u101, u102, u103, u104, u105, u106, u107, u108, u109, u110, u111, u112, u113, u114, u115, u116, u117, u118, u119, u120, u121, u122, u123, u124, u125, u126, u127, u128, u129, u130, u131, u132, u133, u134, u135, u136, u137, u138, u139, u140, u141, u142, u143, u144, u145, u146, u147, u148, u149, u150, u151, u152, u153, u154, u155, u156, u157, u158, u159, u160, u161, u162, u163, u164, u165, u166, u167, u168, u169, u170, u171, u172, u173, u174, u175, u176, u177, u178, u179, u180, u181, u182, u183, u184, u185, u186, u187, hrel, rfl⟩
set_option maxRecDepth 1000000 in
set_option maxHeartbeats 16000000 in
theorem valid_any (f : Nat → Nat) (n b o cap : Nat) (w : World) (hT : Lib.Utf8Tabs 1 2 w) (hf : ∀ j, f j < 256) (hc : n ≤ cap) (hm : cap ≤ maxLen) (hp : Bytes w b o n f) :
    Calls Tryz.prog 32 #[.slice (some ⟨b, o, none⟩) n cap] w fun e w' => e = .returned (.bool (Lx.V f n 0)) ∧ Below w.heap.size w w' := by
  have hcap : cap ≤ 9223372036854775807 := by unfold maxLen at hm; omega
  have i0 : (n : Int) ≤ cap := by omega
  obtain ⟨ANS, hANS⟩ : ∃ ANS, Lx.V f n 0 = ANS := ⟨_, rfl⟩
  rw [hANS]
  have HA := hide' hANS
  clear hANS hm
  go_enter Tryz.func32, Tryz.ntmps32
  go_wp2
  refine valid_loop hT hf hp ?_ _ _ _ _ _ _ _ _ _ _ _ _ _ _ _ _ _ _ _ _ _ _ _ _ _ _ _ _ _ _ _ _ _ _ _ _ _ _ _ _ _ _ _ _ _ _ _ _ _ _ _ _ _ _ _ _ _ _ _ _ _ _ _ _ _ _ _ _ _ _ _ _ _ _ _ _ _ _ _ _ _ _ _ _ _ _ _ _ _ _ _ _ _ _ _ _ _ _ _ _ _ _ _ _ _ _ _ _ _ _ _ _ _ _ _ _ _ _ _ _ _ _ _ _ _ _ _ _ _ _ _ _ _ _ _ _ _ _ _ _ _ _ _ _ _ _ _ _ _ _ _ _ _ _ _ _ _ _ _ _ _ _ _ _ _ _ _ _ _ _ _ _ _ _ _ _ _ _ _ _ _ _ _ _ _ _ _ _ _ ⟨0, o, n, rfl, by omega, fun _ => rfl, HA.out, Below.refl _ _⟩
  clear hp hT
  refine ⟨?_, ?_⟩
  · intro u0 u1 u2 u3 u4 u5 u6 u7 u8 u9 u10 u11 u12 u13 u14 u15 u16 u17 u18 u19 u20 u21 u22 u23 u24 u25 u26 u27 u28 u29 u30 u31 u32 u33 u34 u35 u36 u37 u38 u39 u40 u41 u42 u43 u44 u45 u46 u47 u48 u49 u50 u51 u52 u53 u54 u55 u56 u57 u58 u59 u60 u61 u62 u63 u64 u65 u66 u67 u68 u69 u70 u71 u72 u73 u74 u75 u76 u77 u78 u79 u80 u81 u82 u83 u84 u85 u86 u87 u88 u89 u90 u91 u92 u93 u94 u95 u96 u97 u98 u99 u100 u101 u102 u103 u104 u105 u106 u107 u108 u109 u110 u111 u112 u113 u114 u115 u116 u117 u118 u119 u120 u121 u122 u123 u124 u125 u126 u127 u128 u129 u130 u131 u132 u133 u134 u135 u136 u137 u138 u139 u140 u141 u142 u143 u144 u145 u146 u147 u148 u149 u150 u151 u152 u153 u154 u155 u156 u157 u158 u159 u160 u161 u162 u163 u164 u165 u166 u167 u168 u169 u170 u171 u172 u173 u174 u175 u176 u177 u178 u179 u180 u181 u182 u183 u184 u185 u186 u187 w' hb ha
    subst ha
    go_wp2
    go_ret
    exact ⟨rfl, hb⟩
  · intro u0 u1 u3 u4 u5 u6 u7 u8 u9 u10 u11 u12 u13 u14 u15 u16 u17 u18 u19 u20 u21 u22 u23 u24 u25 u26 u27 u28 u29 u30 u31 u32 u33 u34 u35 u36 u37 u38 u39 u40 u41 u42 u43 u44 u45 u46 u47 u48 u49 u50 u51 u52 u53 u54 u55 u56 u57 u58 u59 u60 u61 u62 u63 u64 u65 u66 u67 u68 u69 u70 u71 u72 u73 u74 u75 u76 u77 u78 u79 u80 u81 u82 u83 u84 u85 u86 u87 u88 u89 u90 u91 u92 u93 u94 u95 u96 u97 u98 u99 u100 u101 u102 u103 u104 u105 u106 u107 u108 u109 u110 u111 u112 u113 u114 u115 u116 u117 u118 u119 u120 u121 u122 u123 u124 u125 u126 u127 u128 u129 u130 u131 u132 u133 u134 u135 u136 u137 u138 u139 u140 u141 u142 u143 u144 u145 u146 u147 u148 u149 u150 u151 u152 u153 u154 u155 u156 u157 u158 u159 u160 u161 u162 u163 u164 u165 u166 u167 u168 u169 u170 u171 u172 u173 u174 u175 u176 u177 u178 u179 u180 u181 u182 u183 u184 u185 u186 u187 w' hb ha
    subst ha
    go_wp2
    go_ret
    exact ⟨rfl, hb⟩
end Go.Proofs.YtcnagbkdckipnaaGreatDoor
